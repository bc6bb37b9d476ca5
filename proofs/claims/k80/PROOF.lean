import PyProof.Rows.All
import KE.KDictOf
import KE.KIsAll
import KE.KEqDict
import KE.KFind
import KE.KxWritten
import Open.Tree
import PyProof.MeetsSeq
import PyProof.Rows.SortRunK
import PySem.Challenge.RW_cutstand_k80_deeds_written
import KE.KIntText
import PyProof.Rows.RegReprOcc
import PyProof.Rows.StrLawsPart
import PyProof.FitsReplace
set_option Elab.async false
set_option linter.all false
set_option maxRecDepth 100000
set_option genSizeOf false
set_option genInjectivity false
set_option bootstrap.genMatcherCode false
set_option compiler.extract_closed false
set_option maxHeartbeats 4000000
local macro_rules
  | `(⋯) => `(by decide +kernel)
  | `(nofun) => `(by kernel_rfl)
  | `(∅) => `(by omega)
  | `(tactic| omega) => `(tactic| first | with_reducible assumption | decide +kernel | lia | omega (config := {}))
abbrev aD:=@Bool.false_ne_true
abbrev aA:=@Bool.and_eq_true
abbrev ah:=@PySem.wpAny_bind
abbrev aV:=@List.length_map
abbrev bC:=@PySem.Heap.get?_push_of_some
abbrev bW:=@Nat.le_of_ble_eq_true
abbrev a6:=@Nat.le_refl
abbrev a7:=@PySem.wpAny_pure
abbrev bF:=@List.mem_cons
abbrev cD:=@List.mem_cons_self
abbrev cE:=@List.size_toArray
abbrev du:=@List.mem_cons_of_mem
abbrev aG:=@if_pos
abbrev cx:=@Option.some.inj
abbrev bO:=@PySem.Heap.lt_size
abbrev eU:=@List.getElem?_eq_some_iff
abbrev dC:=@PySem.Heap.get?_push_size
abbrev aR:=@if_neg
abbrev cA:=@List.map_cons
abbrev eL:=@List.mem_of_getElem?
abbrev dP:=@List.getElem?_map
abbrev df:=@decide_eq_false
abbrev gz:=@List.getElem?_append_left
abbrev d6:=@List.lookup_cons
abbrev eV:=@Nat.lt_of_lt_of_le
abbrev eW:=@List.length_append
abbrev gA:=@List.mem_append_right
abbrev jq:=@List.getElem?_eq_getElem
abbrev dD:=@List.mem_map
abbrev fw:=@beq_self_eq_true
abbrev d7:=@Nat.le_trans
abbrev gB:=@Bool.not_eq_true'
abbrev eM:=@Nat.ne_of_lt
abbrev gU:=@PySem.Str.length_append
abbrev dQ:=@beq_iff_eq
abbrev gV:=@List.not_mem_nil
abbrev jr:=@List.mem_singleton
abbrev gW:=@List.mem_append
abbrev jR:=@PySem.mem_of_lookup
abbrev nQ:=@List.getElem?_append_right
abbrev iH:=@List.length_cons
abbrev gX:=@decide_eq_true
abbrev gC:=@PySem.W.mg_of
abbrev lE:=@beq_eq_false_iff_ne
abbrev tf:=@PyProof.Rows.slot_tuple_getitem
abbrev jS:=@List.length_take
abbrev gc:=@PySem.wpAny_field
abbrev jT:=@List.all_eq_true
abbrev jU:=@PySem.W.kia_one
abbrev nR:=@List.getElem?_set_ne
abbrev iI:=@Nat.lt_trans
abbrev jV:=@PySem.Heap.size_push
abbrev lF:=@List.find?_cons
abbrev tj:=@List.isEmpty_eq_false_iff
abbrev lG:=@List.map_append
abbrev tm:=@Option.isSome_iff_exists
abbrev nS:=@PySem.wpAny_setField_rec
abbrev mD:=@List.take_length
abbrev jW:=@Nat.lt_irrefl
abbrev tq:=@PySem.wpAny_callSpecial?_slot
abbrev nT:=@PySem.wpAny_truthy_bool
abbrev nU:=@decide_eq_true_eq
abbrev mE:=@PySem.W.kia_tup
abbrev tu:=@List.getElem?_set_self
abbrev iJ:=@PySem.wpAny_mono
abbrev gD:=@or_false
abbrev pQ:=@PySem.wpAny_newObj_type
abbrev pR:=@List.append_assoc
abbrev pS:=@Option.some.injEq
abbrev mF:=@PySem.wpAny_holding
abbrev tw:=@List.filterMap_cons
abbrev tB:=@Array.length_toList
abbrev tD:=@List.replicate_succ
abbrev pT:=@PySem.wpAny_call_entry
abbrev nV:=@PySem.wpAny_seqItems
abbrev jX:=@PySem.call_meets
abbrev tF:=@PySem.wpAny_pyIter_tuple
abbrev zO:=@PyProof.Rows.callWith_type1
abbrev va:=@List.contains_iff_mem
abbrev zP:=@PySem.F.slot_tuple_iterator_next
abbrev tH:=@PySem.wpAny_pyIter_list
abbrev zQ:=@List.getElem?_eq_none_iff
abbrev gY:=@if_true
abbrev jt:=@congrArg
abbrev tJ:=@Nat.lt_succ_self
abbrev tK:=@List.isEmpty_iff
abbrev tM:=@List.forIn_cons
abbrev vb:=@Int.emod_lt_of_pos
abbrev vc:=@List.flatten_cons
abbrev vd:=@Nat.le_of_succ_le
abbrev ju:=@Ne.symm
abbrev pU:=@List.map_map
abbrev zR:=@List.getElem?_eq_none
abbrev zS:=@List.mem_append_left
abbrev tP:=@Prod.mk.injEq
abbrev EF:=@List.getD_eq_getElem?_getD
abbrev vg:=@PySem.wpAny_passesOwn
abbrev vh:=@List.nodup_cons
abbrev vj:=@PySem.F.slot_zip_next
abbrev vk:=@Bool.or_eq_true
abbrev vm:=@Int.emod_nonneg
abbrev zT:=@PySem.wpAny_Call_Name_kw
abbrev tQ:=@List.map_nil
abbrev EG:=@PySem.F.args_tuple_add_2
abbrev vn:=@List.forIn_nil
abbrev EH:=@PySem.F.entry_tuple_add
abbrev EI:=@List.length_eq_zero_iff
abbrev zU:=@PySem.W.kitx_list
abbrev zV:=@PySem.W.kitx_dict
abbrev zW:=@Nat.lt_succ_of_lt
abbrev EJ:=@Option.map_eq_some_iff
abbrev EK:=@PySem.F.slot_tuple_add
abbrev vp:=@List.any_cons
abbrev vq:=@List.sum_cons
abbrev vt:=@List.cons.inj
abbrev zX:=@PySem.F.slot_tuple_mul
abbrev zY:=@PySem.F.slot_str_split
abbrev zZ:=@List.cons_ne_nil
abbrev EL:=@List.length_replicate
abbrev mG:=@Iff.rfl
abbrev EM:=@PySem.StrLaws.glued_eq_join
abbrev EN:=@List.getElem?_zipWith
abbrev vv:=@Nat.le_of_lt
abbrev tR:=@PySem.wpAny_Name
abbrev z3:=@PySem.wpAny_execs_nil
abbrev z9:=@List.append_nil
abbrev z_:=@List.length_set
abbrev Aa:=@List.nil_append
abbrev Ab:=@PySem.F.slot_int_rmul
abbrev EO:=@PySem.wpAny_updateSeq_pair
abbrev ER:=@List.drop_succ_cons
abbrev ES:=@List.length_zipWith
abbrev ET:=@List.any_eq_false
abbrev EU:=@Int.toNat_natCast
noncomputable section
section
namespace L2
open PySem PySem.Spec PyProof.Rows
noncomputable def fQ(s:Stmt):Arguments:=match s with
 | .FunctionDef _ a _ _ _ _ _ _ _ _=>a
 | _=>{posonlyargs:=[],args:=[],vararg:=none,kwonlyargs:=[],kw_defaults:=[],kwarg:=none,defaults:=[]}
noncomputable def cB(s:Stmt):List Stmt:=match s with
 | .FunctionDef _ _ b _ _ _ _ _ _ _=>b
 | _=>[]
noncomputable def aZ(s:Stmt):Scope:=match s with
 | .FunctionDef _ _ _ _ _ _ sc _ _ _=>sc
 | _=>{kind:=.function,names:=[],isGenerator:=false,isCoroutine:=false}
abbrev VE:List Value:=[.type "ValueError",.type "Exception",.type "BaseException",.type "object"]
end L2
namespace Ev
open L2
open PySem PySem.Spec PyProof.Rows
abbrev fq(x:Str)(s:Stmt)(m c:Value):FuncData:=PySem.W.fnOf x x (fQ s) (cB s) (aZ s) .none .none .none m none c .none
noncomputable def fo(f:FuncData):Obj:=⟨.type "function",none,.func f,#[]⟩
end Ev
namespace eA
open L2 Ev PySem PySem.Spec PyProof.Rows
noncomputable def aU(i:Nat):Stmt:=PySem.Challenge.pw_cutstand_k80_deeds_written.main.body.getD i (.Pass ⟨0,0,0,0⟩)
abbrev SI:=aU 4
abbrev SJ:=aU 7
abbrev SM:=aU 9
abbrev SN:=aU 10
abbrev SO:=aU 8
abbrev SQ:=aU 6
abbrev SS:=aU 15
abbrev SU:=aU 16
abbrev SV:=aU 17
abbrev SW:=aU 18
abbrev Jp:=aU 19
abbrev Jq:=aU 20
abbrev Jr:=aU 21
abbrev Js:=aU 22
abbrev PQ:=aU 19
abbrev Jt:=aU 23
abbrev Ju:=aU 25
abbrev Jv:=aU 26
abbrev Jw:=aU 28
abbrev Jx:=aU 29
abbrev Jy:=aU 30
abbrev Jz:=aU 31
abbrev JA:=aU 32
abbrev JB:=aU 33
abbrev JC:=aU 34
abbrev JD:=aU 36
abbrev JE:=aU 37
abbrev JF:=aU 35
abbrev JG:=aU 38
abbrev EV:=aU 39
abbrev m0:Value:=(.str "cutstand.kinds" 232)
abbrev m1:Value:=(.str "cutstand.texts" 241)
abbrev m2:Value:=(.str "cutstand.reading" 277)
abbrev m3:Value:=(.str "law_cutstand_k80_deeds_written" 388)
noncomputable def en(P:Params)(k:Str)(t:Nat)(v:Value):DictEntry:=⟨PyData.keyHash P k,.str k t,v⟩
noncomputable def co(a:Array Value):Obj:=⟨.type "code",none,.fields a,#[]⟩
noncomputable def cp(n:Nat):Value:=.str "/claim/cut.py" n
noncomputable def iv(n:Nat):Value:=.int n 0
noncomputable def gf:Stmt->Stmt
 | .ClassDef _ _ _ b _ _ _ _ _ _ _=>b.getD 0 (.Pass ⟨0,0,0,0⟩)
 | s=>s
noncomputable abbrev kl(nm:Str)(C N:Addr)(bs bm sub:List Value)(k0:Value)(t2 t3:Nat):Obj:=excClassObj nm nm C N bs bm true [] sub false none none (some k0) none (some (.str nm t2)) (some (.str nm t3)) (some (.bool true)) "ValueError.__new__"
noncomputable def sq(a:Array Value):Obj:=⟨.type "tuple",none,.seq a 0,#[]⟩
noncomputable def dc(c:Value)(a:Array DictEntry)(n:Nat):Obj:=⟨c,none,.dict a n,#[]⟩
noncomputable def fr(a:Array (Option Value)):Obj:={cls:=.type "frame",slots:=a}
noncomputable def fz(x q:Str)(s:Stmt):Obj:=⟨.none,none,.func {name:=x,qualname:=q,params:=fQ s,body:=.stmts (cB s),scope:=aZ s,globals:=0,closure:=[],defaults:=.none,kwdefaults:=.none},#[]⟩
noncomputable abbrev nd:=PySem.W.BT.node
noncomputable abbrev lf(o:Obj):PySem.W.BT:=nd o .nil .nil
noncomputable def EW:Obj:=sq #[]
noncomputable def PR:Obj:=⟨.none,none,.fields #[],#[]⟩
noncomputable def EY:Obj:=co #[(.str "<module>" 182),(.str "<module>" 183),(cp 184),(iv 1),(iv 0),(iv 0),(iv 0),(iv 0),(.ref 11),(.bool false),(iv 181),(.ref 12),.none,.none,.none,.none,(iv 185),(iv 1),(cp 186)]
noncomputable def EZ:Obj:=fr #[some (.ref 13),some (.ref 3),some (.ref 3),none,some (.str "__main__" 164),none,some (.ref 0)]
noncomputable def Um(P:Params):Obj:=dc (.type "dict") #[en P "__name__" 165 (.str "law_cutstand_k80_deeds_written" 388),en P "__doc__" 166 .none,en P "__package__" 167 .none,en P "__loader__" 168 (.builtin "__main__.__loader__#opaque"),en P "__spec__" 169 .none,en P "__annotations__" 170 (.ref 6),en P "__builtins__" 171 (.ref 4),en P "__file__" 173 (cp 172),en P "__cached__" 174 .none,en P "CutError" 206 (.ref 24),en P "NoText" 231 (.ref 44),en P "is_sign" 240 (.ref 53),en P "deed_text" 248 (.ref 58),en P "in_blanks" 254 (.ref 63),en P "in_commas" 260 (.ref 68),en P "pair_text" 268 (.ref 75),en P "letter_text" 276 (.ref 82),en P "FIGURES" 280 (.str "0123456789" 279),en P "MOST_FIGURES" 282 (.int 9 281),en P "MOST_LONG_FIGURES" 284 (.int 10 283),en P "figures_in" 290 (.ref 87),en P "number_in" 297 (.ref 94),en P "long_in" 304 (.ref 101),en P "sign_in" 311 (.ref 108),en P "pair_in" 322 (.ref 115),en P "letter_in" 329 (.ref 122),en P "numbers_in" 335 (.ref 127),en P "letters_in" 341 (.ref 132),en P "way_in" 348 (.ref 139),en P "DEED_WORDS" 365 (.ref 140),en P "values_in" 377 (.ref 163),en P "read_deed" 387 (.ref 170),en P "_law_feed" 396 (.ref 177),en P "_law_open" 404 (.ref 184),en P "_law_draw" 415 (.ref 191),en P "_law_line" 421 (.ref 196)] 36
noncomputable def E1:Obj:=⟨.none,none,.fields #[(.int 2 0),(.int 0 0),(.ref 20),(.int 4 0),(.int 0 0),(.ref 33),(.int 9 0),(.int 0 0),(.ref 52),(.int 12 0),(.int 0 0),(.ref 57),(.int 21 0),(.int 0 0),(.ref 62),(.int 23 0),(.int 0 0),(.ref 67),(.int 25 0),(.int 0 0),(.ref 74),(.int 27 0),(.int 0 0),(.ref 81),(.int 33 0),(.int 0 0),(.ref 86),(.int 39 0),(.int 0 0),(.ref 93),(.int 41 0),(.int 0 0),(.ref 100),(.int 43 0),(.int 0 0),(.ref 107),(.int 47 0),(.int 0 0),(.ref 114),(.int 50 0),(.int 0 0),(.ref 121),(.int 52 0),(.int 0 0),(.ref 126),(.int 54 0),(.int 0 0),(.ref 131),(.int 56 0),(.int 0 0),(.ref 138),(.int 59 0),(.int 0 0),(.ref 162),(.int 72 0),(.int 0 0),(.ref 169),(.int 86 0),(.int 0 0),(.ref 176),(.int 88 0),(.int 0 0),(.ref 183),(.int 93 0),(.int 0 0),(.ref 190),(.int 102 0),(.int 0 0),(.ref 195)],#[]⟩
noncomputable def JH:Obj:=sq #[(.type "ValueError")]
noncomputable def JI:Obj:=⟨(.type "builtin_function_or_method"),none,.fields #[(.builtin "type.__prepare__"),(.type "type")],#[]⟩
noncomputable def JJ(P:Params):Obj:=dc (.type "dict") #[en P "__module__" 196 (.str "cutstand.errors" 187),en P "__qualname__" 198 (.str "CutError" 197),en P "__firstlineno__" 200 (.int 2 199),en P "__static_attributes__" 201 (.ref 22)] 4
noncomputable def JK:Obj:=sq #[]
noncomputable def JL:Obj:=⟨.none,none,.fields #[],#[]⟩
noncomputable def JM:Obj:=co #[(.str "CutError" 191),(.str "CutError" 192),(cp 193),(iv 2),(iv 0),(iv 0),(iv 0),(iv 0),(.ref 18),(.bool false),(iv 181),(.ref 19),.none,.none,.none,.none,(iv 194),(iv 2),(cp 195)]
noncomputable def JN:Obj:=fr #[some (.ref 20),some (.ref 3),some (.ref 17),none,some (.str "cutstand.errors" 187),none,some (.ref 0)]
noncomputable def JO:Obj:=sq #[]
noncomputable def JP(P:Params):Obj:=dc (.type "dict") #[en P "__module__" 196 (.str "cutstand.errors" 187),en P "__firstlineno__" 200 (.int 2 199),en P "__static_attributes__" 201 (.ref 22),en P "__weakref__" 203 (.ref 25),en P "__doc__" 204 .none] 3
noncomputable def JQ:Obj:=kl "CutError" 24 23 [(.type "ValueError")] VE [(.ref 44)] (.ref 15) 189 197
noncomputable def JR:Obj:=⟨(.type "getset_descriptor"),none,.fields #[(.str "__weakref__" 202),(.ref 24),(.builtin "ExceptionGroup.__weakref__"),.none],#[]⟩
noncomputable def JS:Obj:=⟨(.type "super"),none,.fields #[(.ref 24),(.ref 24),(.ref 24)],#[]⟩
noncomputable def JT:Obj:=⟨(.type "builtin_function_or_method"),none,.fields #[(.builtin "object.__init_subclass__"),(.ref 24)],#[]⟩
noncomputable def JU:Obj:=sq #[(.ref 24)]
noncomputable def JV:Obj:=⟨(.type "builtin_function_or_method"),none,.fields #[(.builtin "type.__prepare__"),(.type "type")],#[]⟩
noncomputable def JW(P:Params):Obj:=dc (.type "dict") #[en P "__module__" 214 (.str "cutstand.errors" 187),en P "__qualname__" 216 (.str "NoText" 215),en P "__firstlineno__" 218 (.int 4 217),en P "__init__" 226 (.ref 41),en P "__static_attributes__" 228 (.ref 42)] 5
noncomputable def JX:Obj:=sq #[]
noncomputable def JY:Obj:=⟨.none,none,.fields #[(.int 6 0),(.int 4 0),(.ref 40)],#[]⟩
noncomputable def JZ:Obj:=co #[(.str "NoText" 209),(.str "NoText" 210),(cp 211),(iv 4),(iv 0),(iv 0),(iv 0),(iv 0),(.ref 31),(.bool false),(iv 181),(.ref 32),.none,.none,.none,.none,(iv 212),(iv 4),(cp 213)]
noncomputable def J0:Obj:=fr #[some (.ref 33),some (.ref 3),some (.ref 30),none,some (.str "cutstand.errors" 187),none,some (.ref 0)]
noncomputable def J1:Obj:=sq #[]
noncomputable def J2:Obj:=⟨.none,none,.fields #[],#[]⟩
noncomputable def J3:Obj:=sq #[(.str "self" 222),(.str "at" 223)]
noncomputable def J4:Obj:=sq #[]
noncomputable def J5:Obj:=fz "__init__" "NoText.__init__" (gf (aU 2))
noncomputable def J6:Obj:=co #[(.str "__init__" 219),(.str "NoText.__init__" 220),(cp 221),(iv 6),(iv 2),(iv 0),(iv 0),(iv 3),(.ref 35),(.bool true),(iv 181),(.ref 36),.none,(.ref 37),(.ref 38),(.ref 39),(iv 224),(iv 6),(cp 225)]
noncomputable def J7:Obj:=fo (PySem.W.fnOf "__init__" "NoText.__init__" (fQ (gf (aU 2))) (cB (gf (aU 2))) (aZ (gf (aU 2))) .none .none .none (.str "cutstand.errors" 187) none (.ref 40) .none)
noncomputable def J8:Obj:=sq #[(.str "at" 227)]
noncomputable def J9(P:Params):Obj:=dc (.type "dict") #[en P "__module__" 214 (.str "cutstand.errors" 187),en P "__firstlineno__" 218 (.int 4 217),en P "__init__" 226 (.ref 41),en P "__static_attributes__" 228 (.ref 42),en P "__doc__" 229 .none] 2
noncomputable def J_:Obj:=kl "NoText" 44 43 [(.ref 24)] ((.ref 24)::VE) [] (.ref 28) 207 215
noncomputable def Ka:Obj:=⟨(.type "super"),none,.fields #[(.ref 44),(.ref 44),(.ref 44)],#[]⟩
noncomputable def Kb:Obj:=⟨(.type "builtin_function_or_method"),none,.fields #[(.builtin "object.__init_subclass__"),(.ref 44)],#[]⟩
noncomputable def Kc:Obj:=sq #[]
noncomputable def Kd:Obj:=⟨.none,none,.fields #[],#[]⟩
noncomputable def Ke:Obj:=sq #[(.str "thing" 237)]
noncomputable def Kg:Obj:=sq #[]
noncomputable def Kh:Obj:=fz "is_sign" "is_sign" (gf (aU 4))
noncomputable def E2:Obj:=co #[(.str "is_sign" 234),(.str "is_sign" 235),(cp 236),(iv 9),(iv 1),(iv 0),(iv 0),(iv 3),(.ref 47),(.bool true),(iv 181),(.ref 48),.none,(.ref 49),(.ref 50),(.ref 51),(iv 238),(iv 9),(cp 239)]
noncomputable def E3:Obj:=fo (fq "is_sign" SI m0 (.ref 52))
noncomputable def Ki:Obj:=sq #[]
noncomputable def Kj:Obj:=⟨.none,none,.fields #[],#[]⟩
noncomputable def Kk:Obj:=fz "deed_text" "deed_text" (gf (aU 6))
noncomputable def E4:Obj:=co #[(.str "deed_text" 243),(.str "deed_text" 244),(cp 245),(iv 12),(iv 1),(iv 0),(iv 0),(iv 3),(.ref 54),(.bool true),(iv 181),(.ref 55),.none,.none,.none,(.ref 56),(iv 246),(iv 12),(cp 247)]
noncomputable def E5:Obj:=fo (fq "deed_text" SQ m1 (.ref 57))
noncomputable def Kl:Obj:=sq #[]
noncomputable def Km:Obj:=⟨.none,none,.fields #[],#[]⟩
noncomputable def Kn:Obj:=fz "in_blanks" "in_blanks" (gf (aU 7))
noncomputable def E6:Obj:=co #[(.str "in_blanks" 249),(.str "in_blanks" 250),(cp 251),(iv 21),(iv 1),(iv 0),(iv 0),(iv 3),(.ref 59),(.bool true),(iv 181),(.ref 60),.none,.none,.none,(.ref 61),(iv 252),(iv 21),(cp 253)]
noncomputable def E7:Obj:=fo (fq "in_blanks" SJ m1 (.ref 62))
noncomputable def Ko:Obj:=sq #[]
noncomputable def Kp:Obj:=⟨.none,none,.fields #[],#[]⟩
noncomputable def Kq:Obj:=fz "in_commas" "in_commas" (gf (aU 8))
noncomputable def E8:Obj:=co #[(.str "in_commas" 255),(.str "in_commas" 256),(cp 257),(iv 23),(iv 1),(iv 0),(iv 0),(iv 3),(.ref 64),(.bool true),(iv 181),(.ref 65),.none,.none,.none,(.ref 66),(iv 258),(iv 23),(cp 259)]
noncomputable def E9:Obj:=fo (fq "in_commas" SO m1 (.ref 67))
noncomputable def Kr:Obj:=sq #[]
noncomputable def Ks:Obj:=⟨.none,none,.fields #[],#[]⟩
noncomputable def Kt:Obj:=sq #[(.str "one" 264),(.str "other" 265)]
noncomputable def Ku:Obj:=sq #[]
noncomputable def Kv:Obj:=fz "pair_text" "pair_text" (gf (aU 9))
noncomputable def E_:Obj:=co #[(.str "pair_text" 261),(.str "pair_text" 262),(cp 263),(iv 25),(iv 2),(iv 0),(iv 0),(iv 3),(.ref 69),(.bool true),(iv 181),(.ref 70),.none,(.ref 71),(.ref 72),(.ref 73),(iv 266),(iv 25),(cp 267)]
noncomputable def Fa:Obj:=fo (fq "pair_text" SM m1 (.ref 74))
noncomputable def Kw:Obj:=sq #[]
noncomputable def Kx:Obj:=⟨.none,none,.fields #[],#[]⟩
noncomputable def Ky:Obj:=sq #[(.str "road" 272),(.str "k" 273)]
noncomputable def Kz:Obj:=sq #[]
noncomputable def KA:Obj:=fz "letter_text" "letter_text" (gf (aU 10))
noncomputable def Fb:Obj:=co #[(.str "letter_text" 269),(.str "letter_text" 270),(cp 271),(iv 27),(iv 2),(iv 0),(iv 0),(iv 3),(.ref 76),(.bool true),(iv 181),(.ref 77),.none,(.ref 78),(.ref 79),(.ref 80),(iv 274),(iv 27),(cp 275)]
noncomputable def Fc:Obj:=fo (fq "letter_text" SN m1 (.ref 81))
noncomputable def KB:Obj:=sq #[]
noncomputable def KC:Obj:=⟨.none,none,.fields #[],#[]⟩
noncomputable def KD:Obj:=fz "figures_in" "figures_in" (gf (aU 15))
noncomputable def Fd:Obj:=co #[(.str "figures_in" 285),(.str "figures_in" 286),(cp 287),(iv 33),(iv 2),(iv 0),(iv 0),(iv 3),(.ref 83),(.bool true),(iv 181),(.ref 84),.none,.none,.none,(.ref 85),(iv 288),(iv 33),(cp 289)]
noncomputable def Fe:Obj:=fo (fq "figures_in" SS m2 (.ref 86))
noncomputable def KG:Obj:=sq #[]
noncomputable def KH:Obj:=⟨.none,none,.fields #[],#[]⟩
noncomputable def KI:Obj:=sq #[(.str "word" 294)]
noncomputable def KJ:Obj:=sq #[]
noncomputable def KL:Obj:=fz "number_in" "number_in" (gf (aU 16))
noncomputable def Ff:Obj:=co #[(.str "number_in" 291),(.str "number_in" 292),(cp 293),(iv 39),(iv 1),(iv 0),(iv 0),(iv 3),(.ref 88),(.bool true),(iv 181),(.ref 89),.none,(.ref 90),(.ref 91),(.ref 92),(iv 295),(iv 39),(cp 296)]
noncomputable def Fg:Obj:=fo (fq "number_in" SU m2 (.ref 93))
noncomputable def KM:Obj:=sq #[]
noncomputable def KN:Obj:=⟨.none,none,.fields #[],#[]⟩
noncomputable def KO:Obj:=sq #[(.str "word" 301)]
noncomputable def KP:Obj:=sq #[]
noncomputable def KQ:Obj:=fz "long_in" "long_in" (gf (aU 17))
noncomputable def vA:Obj:=co #[(.str "long_in" 298),(.str "long_in" 299),(cp 300),(iv 41),(iv 1),(iv 0),(iv 0),(iv 3),(.ref 95),(.bool true),(iv 181),(.ref 96),.none,(.ref 97),(.ref 98),(.ref 99),(iv 302),(iv 41),(cp 303)]
noncomputable def vB:Obj:=fo (fq "long_in" SV m2 (.ref 100))
noncomputable def Ck:Obj:=sq #[]
noncomputable def Cm:Obj:=⟨.none,none,.fields #[],#[]⟩
noncomputable def Cn:Obj:=sq #[(.str "word" 308)]
noncomputable def Co:Obj:=sq #[]
noncomputable def Cp:Obj:=fz "sign_in" "sign_in" (gf (aU 18))
noncomputable def vC:Obj:=co #[(.str "sign_in" 305),(.str "sign_in" 306),(cp 307),(iv 43),(iv 1),(iv 0),(iv 0),(iv 3),(.ref 102),(.bool true),(iv 181),(.ref 103),.none,(.ref 104),(.ref 105),(.ref 106),(iv 309),(iv 43),(cp 310)]
noncomputable def vD:Obj:=fo (fq "sign_in" SW m2 (.ref 107))
noncomputable def Cq:Obj:=sq #[]
noncomputable def Cr:Obj:=⟨.none,none,.fields #[],#[]⟩
noncomputable def Cs:Obj:=sq #[(.str "word" 315),(.str "between" 316),(.str "one_in" 317),(.str "other_in" 318),(.str "parts" 319)]
noncomputable def Ct:Obj:=sq #[]
noncomputable def Cu:Obj:=fz "pair_in" "pair_in" (gf (aU 19))
noncomputable def vE:Obj:=co #[(.str "pair_in" 312),(.str "pair_in" 313),(cp 314),(iv 47),(iv 4),(iv 0),(iv 0),(iv 3),(.ref 109),(.bool true),(iv 181),(.ref 110),.none,(.ref 111),(.ref 112),(.ref 113),(iv 320),(iv 47),(cp 321)]
noncomputable def vF:Obj:=fo (fq "pair_in" Jp m2 (.ref 114))
noncomputable def Cv:Obj:=sq #[]
noncomputable def Cy:Obj:=⟨.none,none,.fields #[],#[]⟩
noncomputable def Cz:Obj:=sq #[(.str "word" 326)]
noncomputable def CA:Obj:=sq #[]
noncomputable def CB:Obj:=fz "letter_in" "letter_in" (gf (aU 20))
noncomputable def vG:Obj:=co #[(.str "letter_in" 323),(.str "letter_in" 324),(cp 325),(iv 50),(iv 1),(iv 0),(iv 0),(iv 3),(.ref 116),(.bool true),(iv 181),(.ref 117),.none,(.ref 118),(.ref 119),(.ref 120),(iv 327),(iv 50),(cp 328)]
noncomputable def vH:Obj:=fo (fq "letter_in" Jq m2 (.ref 121))
noncomputable def CD:Obj:=sq #[]
noncomputable def CF:Obj:=⟨.none,none,.fields #[],#[]⟩
noncomputable def CG:Obj:=fz "numbers_in" "numbers_in" (gf (aU 21))
noncomputable def vI:Obj:=co #[(.str "numbers_in" 330),(.str "numbers_in" 331),(cp 332),(iv 52),(iv 1),(iv 0),(iv 0),(iv 3),(.ref 123),(.bool true),(iv 181),(.ref 124),.none,.none,.none,(.ref 125),(iv 333),(iv 52),(cp 334)]
noncomputable def vJ:Obj:=fo (fq "numbers_in" Jr m2 (.ref 126))
noncomputable def CH:Obj:=sq #[]
noncomputable def CI:Obj:=⟨.none,none,.fields #[],#[]⟩
noncomputable def CJ:Obj:=fz "letters_in" "letters_in" (gf (aU 22))
noncomputable def vK:Obj:=co #[(.str "letters_in" 336),(.str "letters_in" 337),(cp 338),(iv 54),(iv 1),(iv 0),(iv 0),(iv 3),(.ref 128),(.bool true),(iv 181),(.ref 129),.none,.none,.none,(.ref 130),(iv 339),(iv 54),(cp 340)]
noncomputable def vL:Obj:=fo (fq "letters_in" Js m2 (.ref 131))
noncomputable def CK:Obj:=sq #[]
noncomputable def CL:Obj:=⟨.none,none,.fields #[],#[]⟩
noncomputable def CM:Obj:=sq #[(.str "word" 345)]
noncomputable def CN:Obj:=sq #[]
noncomputable def CO:Obj:=fz "way_in" "way_in" (gf (aU 23))
noncomputable def vM:Obj:=co #[(.str "way_in" 342),(.str "way_in" 343),(cp 344),(iv 56),(iv 1),(iv 0),(iv 0),(iv 3),(.ref 133),(.bool true),(iv 181),(.ref 134),.none,(.ref 135),(.ref 136),(.ref 137),(iv 346),(iv 56),(cp 347)]
noncomputable def vN:Obj:=fo (fq "way_in" Jt m2 (.ref 138))
noncomputable def vO(P:Params):Obj:=dc (.type "dict") #[en P "own" 349 (.ref 142),en P "hear" 350 (.ref 144),en P "come" 351 (.ref 146),en P "keep" 352 (.ref 148),en P "note" 353 (.ref 150),en P "tell" 354 (.ref 152),en P "throw" 355 (.ref 154),en P "fall" 356 (.ref 156)] 8
noncomputable def vP:Obj:=sq #[(.ref 94)]
noncomputable def vQ:Obj:=sq #[(.ref 141),.none]
noncomputable def vR:Obj:=sq #[(.ref 94),(.ref 108)]
noncomputable def vS:Obj:=sq #[(.ref 143),.none]
noncomputable def vT:Obj:=sq #[(.ref 122)]
noncomputable def vU:Obj:=sq #[(.ref 145),.none]
noncomputable def vV:Obj:=sq #[(.ref 94)]
noncomputable def vW:Obj:=sq #[(.ref 147),.none]
noncomputable def vX:Obj:=sq #[(.ref 94),(.ref 94)]
noncomputable def vY:Obj:=sq #[(.ref 149),.none]
noncomputable def vZ:Obj:=sq #[(.ref 94),(.ref 94)]
noncomputable def v7:Obj:=sq #[(.ref 151),.none]
noncomputable def v8:Obj:=sq #[(.ref 94)]
noncomputable def v9:Obj:=sq #[(.ref 153),(.ref 94)]
noncomputable def v_:Obj:=sq #[(.ref 127),(.ref 127)]
noncomputable def wa:Obj:=sq #[(.ref 155),(.ref 139)]
noncomputable def CP:Obj:=sq #[]
noncomputable def CQ:Obj:=⟨.none,none,.fields #[],#[]⟩
noncomputable def CS:Obj:=sq #[(.str "words" 369),(.str "readers" 370),(.str "further" 371),(.str "values" 372),(.str "place" 373),(.str "reader" 374)]
noncomputable def CT:Obj:=sq #[]
noncomputable def CU:Obj:=fz "values_in" "values_in" (gf (aU 25))
noncomputable def wb:Obj:=co #[(.str "values_in" 366),(.str "values_in" 367),(cp 368),(iv 59),(iv 3),(iv 0),(iv 0),(iv 3),(.ref 157),(.bool true),(iv 181),(.ref 158),.none,(.ref 159),(.ref 160),(.ref 161),(iv 375),(iv 59),(cp 376)]
noncomputable def wc:Obj:=fo (fq "values_in" Ju m2 (.ref 162))
noncomputable def CV:Obj:=sq #[]
noncomputable def CW:Obj:=⟨.none,none,.fields #[],#[]⟩
noncomputable def CY:Obj:=sq #[(.str "text" 381),(.str "words" 382),(.str "name" 383),(.str "values" 384)]
noncomputable def CZ:Obj:=sq #[]
noncomputable def C0:Obj:=fz "read_deed" "read_deed" (gf (aU 26))
noncomputable def wd:Obj:=co #[(.str "read_deed" 378),(.str "read_deed" 379),(cp 380),(iv 72),(iv 1),(iv 0),(iv 0),(iv 3),(.ref 164),(.bool true),(iv 181),(.ref 165),.none,(.ref 166),(.ref 167),(.ref 168),(iv 385),(iv 72),(cp 386)]
noncomputable def we:Obj:=fo (fq "read_deed" Jv m2 (.ref 169))
noncomputable def C1:Obj:=sq #[]
noncomputable def C2:Obj:=⟨.none,none,.fields #[],#[]⟩
noncomputable def C3:Obj:=sq #[(.str "_law_script" 393)]
noncomputable def C4:Obj:=sq #[]
noncomputable def C5:Obj:=fz "_law_feed" "_law_feed" (gf (aU 28))
noncomputable def wg:Obj:=co #[(.str "_law_feed" 390),(.str "_law_feed" 391),(cp 392),(iv 86),(iv 1),(iv 0),(iv 0),(iv 3),(.ref 171),(.bool true),(iv 181),(.ref 172),.none,(.ref 173),(.ref 174),(.ref 175),(iv 394),(iv 86),(cp 395)]
noncomputable def wj:Obj:=fo (fq "_law_feed" Jw m3 (.ref 176))
noncomputable def C6:Obj:=sq #[]
noncomputable def C7:Obj:=⟨.none,none,.fields #[],#[]⟩
noncomputable def C8:Obj:=sq #[(.str "_law_feed_here" 400),(.str "_law_k" 401)]
noncomputable def C9:Obj:=sq #[]
noncomputable def C_:Obj:=fz "_law_open" "_law_open" (gf (aU 29))
noncomputable def wk:Obj:=co #[(.str "_law_open" 397),(.str "_law_open" 398),(cp 399),(iv 88),(iv 2),(iv 0),(iv 0),(iv 3),(.ref 178),(.bool true),(iv 181),(.ref 179),.none,(.ref 180),(.ref 181),(.ref 182),(iv 402),(iv 88),(cp 403)]
noncomputable def wm:Obj:=fo (fq "_law_open" Jx m3 (.ref 183))
noncomputable def Dc:Obj:=sq #[]
noncomputable def De:Obj:=⟨.none,none,.fields #[],#[]⟩
noncomputable def Df:Obj:=sq #[(.str "_law_feed_here" 408),(.str "_law_many" 409),(.str "_law_cell" 410),(.str "_law_turn" 411),(.str "_law_mixed" 412)]
noncomputable def Dg:Obj:=sq #[]
noncomputable def Dh:Obj:=fz "_law_draw" "_law_draw" (gf (aU 30))
noncomputable def wq:Obj:=co #[(.str "_law_draw" 405),(.str "_law_draw" 406),(cp 407),(iv 93),(iv 2),(iv 0),(iv 0),(iv 3),(.ref 185),(.bool true),(iv 181),(.ref 186),.none,(.ref 187),(.ref 188),(.ref 189),(iv 413),(iv 93),(cp 414)]
noncomputable def wt:Obj:=fo (fq "_law_draw" Jy m3 (.ref 190))
noncomputable def Di:Obj:=sq #[]
noncomputable def Dj:Obj:=⟨.none,none,.fields #[],#[]⟩
noncomputable def Dk:Obj:=fz "_law_line" "_law_line" (gf (aU 31))
noncomputable def wu:Obj:=co #[(.str "_law_line" 416),(.str "_law_line" 417),(cp 418),(iv 102),(iv 1),(iv 0),(iv 0),(iv 3),(.ref 192),(.bool true),(iv 181),(.ref 193),.none,.none,.none,(.ref 194),(iv 419),(iv 102),(cp 420)]
noncomputable def wz:Obj:=fo (fq "_law_line" Jz m3 (.ref 195))
noncomputable def Dl(P:Params):Obj:=dc (.type "dict") #[en P "__name__" 165 (.str "law_cutstand_k80_deeds_written" 388),en P "__doc__" 166 .none,en P "__package__" 167 .none,en P "__loader__" 168 (.builtin "__main__.__loader__#opaque"),en P "__spec__" 169 .none,en P "__annotations__" 170 (.ref 6),en P "__builtins__" 171 (.ref 4),en P "__file__" 173 (cp 172),en P "__cached__" 174 .none,en P "CutError" 206 (.ref 24),en P "NoText" 231 (.ref 44),en P "is_sign" 240 (.ref 53),en P "deed_text" 248 (.ref 58),en P "in_blanks" 254 (.ref 63),en P "in_commas" 260 (.ref 68),en P "pair_text" 268 (.ref 75),en P "letter_text" 276 (.ref 82),en P "FIGURES" 280 (.str "0123456789" 279),en P "MOST_FIGURES" 282 (.int 9 281),en P "MOST_LONG_FIGURES" 284 (.int 10 283),en P "figures_in" 290 (.ref 87),en P "number_in" 297 (.ref 94),en P "long_in" 304 (.ref 101),en P "sign_in" 311 (.ref 108),en P "pair_in" 322 (.ref 115),en P "letter_in" 329 (.ref 122),en P "numbers_in" 335 (.ref 127),en P "letters_in" 341 (.ref 132),en P "way_in" 348 (.ref 139),en P "DEED_WORDS" 365 (.ref 140),en P "values_in" 377 (.ref 163),en P "read_deed" 387 (.ref 170),en P "_law_feed" 396 (.ref 177),en P "_law_open" 404 (.ref 184),en P "_law_draw" 415 (.ref 191),en P "_law_line" 421 (.ref 196),en P "_law_commas" 427 (.ref 201),en P "_law_deed_text" 433 (.ref 206),en P "_law_number" 441 (.ref 213),en P "_law_any_deed" 449 (.ref 220),en P "_law_throw" 455 (.ref 225),en P "_law_fall" 461 (.ref 230),en P "_law_alike" 467 (.ref 235),en P "law" 478 (.ref 242)] 44
noncomputable def Fh:Obj:=⟨.none,none,.fields #[(.int 2 0),(.int 0 0),(.ref 20),(.int 4 0),(.int 0 0),(.ref 33),(.int 9 0),(.int 0 0),(.ref 52),(.int 12 0),(.int 0 0),(.ref 57),(.int 21 0),(.int 0 0),(.ref 62),(.int 23 0),(.int 0 0),(.ref 67),(.int 25 0),(.int 0 0),(.ref 74),(.int 27 0),(.int 0 0),(.ref 81),(.int 33 0),(.int 0 0),(.ref 86),(.int 39 0),(.int 0 0),(.ref 93),(.int 41 0),(.int 0 0),(.ref 100),(.int 43 0),(.int 0 0),(.ref 107),(.int 47 0),(.int 0 0),(.ref 114),(.int 50 0),(.int 0 0),(.ref 121),(.int 52 0),(.int 0 0),(.ref 126),(.int 54 0),(.int 0 0),(.ref 131),(.int 56 0),(.int 0 0),(.ref 138),(.int 59 0),(.int 0 0),(.ref 162),(.int 72 0),(.int 0 0),(.ref 169),(.int 86 0),(.int 0 0),(.ref 176),(.int 88 0),(.int 0 0),(.ref 183),(.int 93 0),(.int 0 0),(.ref 190),(.int 102 0),(.int 0 0),(.ref 195),(.int 104 0),(.int 0 0),(.ref 200),(.int 106 0),(.int 0 0),(.ref 205),(.int 117 0),(.int 0 0),(.ref 212),(.int 120 0),(.int 0 0),(.ref 219),(.int 131 0),(.int 0 0),(.ref 224),(.int 133 0),(.int 0 0),(.ref 229),(.int 141 0),(.int 0 0),(.ref 234),(.int 150 0),(.int 0 0),(.ref 241)],#[]⟩
noncomputable def KR:Obj:=sq #[]
noncomputable def KS:Obj:=⟨.none,none,.fields #[],#[]⟩
noncomputable def KU:Obj:=fz "_law_commas" "_law_commas" (gf (aU 32))
noncomputable def Dm:Obj:=co #[(.str "_law_commas" 422),(.str "_law_commas" 423),(cp 424),(iv 104),(iv 1),(iv 0),(iv 0),(iv 3),(.ref 197),(.bool true),(iv 181),(.ref 198),.none,.none,.none,(.ref 199),(iv 425),(iv 104),(cp 426)]
noncomputable def Dn:Obj:=fo (fq "_law_commas" JA m3 (.ref 200))
noncomputable def KW:Obj:=sq #[]
noncomputable def KY:Obj:=⟨.none,none,.fields #[],#[]⟩
noncomputable def KZ:Obj:=fz "_law_deed_text" "_law_deed_text" (gf (aU 33))
noncomputable def Dp:Obj:=co #[(.str "_law_deed_text" 428),(.str "_law_deed_text" 429),(cp 430),(iv 106),(iv 1),(iv 0),(iv 0),(iv 3),(.ref 202),(.bool true),(iv 181),(.ref 203),.none,.none,.none,(.ref 204),(iv 431),(iv 106),(cp 432)]
noncomputable def Dq:Obj:=fo (fq "_law_deed_text" JB m3 (.ref 205))
noncomputable def K0:Obj:=sq #[]
noncomputable def K1:Obj:=⟨.none,none,.fields #[],#[]⟩
noncomputable def K2:Obj:=sq #[(.str "_law_feed_here" 437),(.str "_law_some" 438)]
noncomputable def K3:Obj:=sq #[]
noncomputable def K4:Obj:=fz "_law_number" "_law_number" (gf (aU 34))
noncomputable def Dr:Obj:=co #[(.str "_law_number" 434),(.str "_law_number" 435),(cp 436),(iv 117),(iv 1),(iv 0),(iv 0),(iv 3),(.ref 207),(.bool true),(iv 181),(.ref 208),.none,(.ref 209),(.ref 210),(.ref 211),(iv 439),(iv 117),(cp 440)]
noncomputable def Ds:Obj:=fo (fq "_law_number" JC m3 (.ref 212))
noncomputable def K5:Obj:=sq #[]
noncomputable def K6:Obj:=⟨.none,none,.fields #[],#[]⟩
noncomputable def K7:Obj:=sq #[(.str "_law_feed_here" 445),(.str "_law_way" 446)]
noncomputable def K8:Obj:=sq #[]
noncomputable def K9:Obj:=fz "_law_any_deed" "_law_any_deed" (gf (aU 35))
noncomputable def Dt:Obj:=co #[(.str "_law_any_deed" 442),(.str "_law_any_deed" 443),(cp 444),(iv 120),(iv 1),(iv 0),(iv 0),(iv 3),(.ref 214),(.bool true),(iv 181),(.ref 215),.none,(.ref 216),(.ref 217),(.ref 218),(iv 447),(iv 120),(cp 448)]
noncomputable def Du:Obj:=fo (fq "_law_any_deed" JF m3 (.ref 219))
noncomputable def K_:Obj:=sq #[]
noncomputable def La:Obj:=⟨.none,none,.fields #[],#[]⟩
noncomputable def Lb:Obj:=fz "_law_throw" "_law_throw" (gf (aU 36))
noncomputable def Dv:Obj:=co #[(.str "_law_throw" 450),(.str "_law_throw" 451),(cp 452),(iv 131),(iv 1),(iv 0),(iv 0),(iv 3),(.ref 221),(.bool true),(iv 181),(.ref 222),.none,.none,.none,(.ref 223),(iv 453),(iv 131),(cp 454)]
noncomputable def Dw:Obj:=fo (fq "_law_throw" JD m3 (.ref 224))
noncomputable def Lc:Obj:=sq #[]
noncomputable def Ld:Obj:=⟨.none,none,.fields #[],#[]⟩
noncomputable def Le:Obj:=fz "_law_fall" "_law_fall" (gf (aU 37))
noncomputable def Dx:Obj:=co #[(.str "_law_fall" 456),(.str "_law_fall" 457),(cp 458),(iv 133),(iv 1),(iv 0),(iv 0),(iv 3),(.ref 226),(.bool true),(iv 181),(.ref 227),.none,.none,.none,(.ref 228),(iv 459),(iv 133),(cp 460)]
noncomputable def Dy:Obj:=fo (fq "_law_fall" JE m3 (.ref 229))
noncomputable def Lf:Obj:=sq #[]
noncomputable def Lg:Obj:=⟨.none,none,.fields #[],#[]⟩
noncomputable def Lh:Obj:=fz "_law_alike" "_law_alike" (gf (aU 38))
noncomputable def Dz:Obj:=co #[(.str "_law_alike" 462),(.str "_law_alike" 463),(cp 464),(iv 141),(iv 2),(iv 0),(iv 0),(iv 3),(.ref 231),(.bool true),(iv 181),(.ref 232),.none,.none,.none,(.ref 233),(iv 465),(iv 141),(cp 466)]
noncomputable def DA:Obj:=fo (fq "_law_alike" JG m3 (.ref 234))
noncomputable def Li:Obj:=sq #[]
noncomputable def Lj:Obj:=⟨.none,none,.fields #[],#[]⟩
noncomputable def Lk:Obj:=sq #[(.str "_law_script" 471),(.str "_law_feed_here" 472),(.str "_law_k" 473),(.str "_law_deed" 474),(.str "_law_text" 475)]
noncomputable def Ll:Obj:=sq #[]
noncomputable def Lm:Obj:=fz "law" "law" (gf (aU 39))
noncomputable def DB:Obj:=co #[(.str "law" 468),(.str "law" 469),(cp 470),(iv 150),(iv 1),(iv 0),(iv 0),(iv 3),(.ref 236),(.bool true),(iv 181),(.ref 237),.none,(.ref 238),(.ref 239),(.ref 240),(iv 476),(iv 150),(cp 477)]
noncomputable def DC:Obj:=fo (fq "law" EV m3 (.ref 241))
noncomputable def Uo(P:Params):PySem.W.BT:=(nd (PySem.W.boot_o_0 P) (nd (PySem.W.boot_o_1 P) (nd (PySem.W.boot_o_3 P) (lf (PySem.W.boot_o_7 P)) (lf EW)) (nd (PySem.W.boot_o_5 P) (lf (PySem.W.boot_o_9 P)) (lf EY))) (nd (PySem.W.boot_o_2 P) (nd (PySem.W.boot_o_4 P) (lf (PySem.W.boot_o_8 P)) (lf PR)) (nd (PySem.W.boot_o_6 P) (lf (PySem.W.boot_o_10 P)) (lf EZ))))
noncomputable def Up(P:Params):PySem.W.BT:=(nd (PySem.W.boot_o_0 P) (nd (PySem.W.boot_o_1 P) (nd (Um P) (nd (PySem.W.boot_o_7 P) (nd JH (nd JX (nd E7 (lf vJ) (lf wt)) (nd KM (lf CS) .nil)) (nd Kc (nd Kz (lf vR) .nil) (nd Cs (lf C5) .nil))) (nd (JP P) (nd J5 (nd Kt (lf CM) .nil) (nd Cm (lf CZ) .nil)) (nd Kj (nd Fe (lf vZ) .nil) (nd CA (lf wk) .nil)))) (nd EW (nd JL (nd J1 (nd E8 (lf vK) (lf wu)) (nd KQ (lf wc) .nil)) (nd Kh (nd KB (lf vV) .nil) (nd vF (lf C7) .nil))) (nd JT (nd (J9 P) (nd Fa (lf vN) .nil) (nd vC (lf C1) .nil)) (nd Kl (nd KJ (lf v_) .nil) (nd CD (lf Df) .nil))))) (nd (PySem.W.boot_o_5 P) (nd (PySem.W.boot_o_9 P) (nd (JJ P) (nd JZ (nd Kp (lf CI) (lf Dj)) (nd KO (lf CU) .nil)) (nd Ke (nd Fb (lf vT) .nil) (nd Cu (lf wj) .nil))) (nd JR (nd J7 (nd Kv (lf CO) .nil) (nd Co (lf wd) .nil)) (nd E4 (nd KH (lf v8) .nil) (nd vG (lf Dc) .nil)))) (nd EY (nd JN (nd J3 (nd Kr (lf CK) .nil) (nd vB (lf CW) .nil)) (nd E3 (nd KD (lf vX) .nil) (nd Cy (lf C9) .nil))) (nd JV (nd Ka (nd Kx (lf vP) .nil) (nd Cq (lf C3) .nil)) (nd Kn (nd Ff (lf CP) .nil) (nd CG (lf Dh) .nil)))))) (nd (PySem.W.boot_o_2 P) (nd (PySem.W.boot_o_4 P) (nd (PySem.W.boot_o_8 P) (nd JI (nd JY (nd Ko (lf CH) (lf Di)) (nd KN (lf CT) .nil)) (nd Kd (nd KA (lf vS) .nil) (nd Ct (lf wg) .nil))) (nd JQ (nd J6 (nd Ku (lf CN) .nil) (nd Cn (lf C0) .nil)) (nd Kk (nd KG (lf v7) .nil) (nd CB (lf wm) .nil)))) (nd E1 (nd JM (nd J2 (nd E9 (lf vL) (lf wz)) (nd vA (lf CV) .nil)) (nd E2 (nd KC (lf vW) .nil) (nd Cv (lf C8) .nil))) (nd JU (nd J_ (nd Kw (lf (vO P)) .nil) (nd vD (lf C2) .nil)) (nd Km (nd KL (lf wa) .nil) (nd CF (lf Dg) .nil))))) (nd (PySem.W.boot_o_6 P) (nd (PySem.W.boot_o_10 P) (nd JK (nd J0 (nd Kq (lf CJ) (lf Dk)) (nd KP (lf wb) .nil)) (nd Kg (nd Fc (lf vU) .nil) (nd vE (lf C6) .nil))) (nd JS (nd J8 (nd E_ (lf vM) .nil) (nd Cp (lf we) .nil)) (nd E5 (nd KI (lf v9) .nil) (nd vH (lf De) .nil)))) (nd EZ (nd JO (nd J4 (nd Ks (lf CL) .nil) (nd Ck (lf CY) .nil)) (nd Ki (nd Fd (lf vY) .nil) (nd Cz (lf C_) .nil))) (nd (JW P) (nd Kb (nd Ky (lf vQ) .nil) (nd Cr (lf C4) .nil)) (nd E6 (nd Fg (lf CQ) .nil) (nd vI (lf wq) .nil)))))))
noncomputable def DD(P:Params):PySem.W.BT:=(nd (PySem.W.boot_o_0 P) (nd (PySem.W.boot_o_1 P) (nd (Dl P) (nd (PySem.W.boot_o_7 P) (nd JH (nd JX (nd E7 (lf vJ) (lf wt)) (nd KM (lf CS) (lf Lb))) (nd Kc (nd Kz (lf vR) (lf K0)) (nd Cs (lf C5) (lf Ll)))) (nd (JP P) (nd J5 (nd Kt (lf CM) (lf KU)) (nd Cm (lf CZ) (lf Lf))) (nd Kj (nd Fe (lf vZ) (lf K6)) (nd CA (lf wk) .nil)))) (nd EW (nd JL (nd J1 (nd E8 (lf vK) (lf wu)) (nd KQ (lf wc) (lf Ld))) (nd Kh (nd KB (lf vV) (lf K4)) (nd vF (lf C7) .nil))) (nd JT (nd (J9 P) (nd Fa (lf vN) (lf KY)) (nd vC (lf C1) (lf DA))) (nd Kl (nd KJ (lf v_) (lf Dt)) (nd CD (lf Df) .nil))))) (nd (PySem.W.boot_o_5 P) (nd (PySem.W.boot_o_9 P) (nd (JJ P) (nd JZ (nd Kp (lf CI) (lf Dj)) (nd KO (lf CU) (lf Dw))) (nd Ke (nd Fb (lf vT) (lf K2)) (nd Cu (lf wj) (lf DB)))) (nd JR (nd J7 (nd Kv (lf CO) (lf Dn)) (nd Co (lf wd) (lf Lh))) (nd E4 (nd KH (lf v8) (lf K8)) (nd vG (lf Dc) .nil)))) (nd EY (nd JN (nd J3 (nd Kr (lf CK) (lf KR)) (nd vB (lf CW) (lf Dx))) (nd E3 (nd KD (lf vX) (lf Ds)) (nd Cy (lf C9) .nil))) (nd JV (nd Ka (nd Kx (lf vP) (lf Dp)) (nd Cq (lf C3) (lf Lj))) (nd Kn (nd Ff (lf CP) (lf K_)) (nd CG (lf Dh) .nil)))))) (nd (PySem.W.boot_o_2 P) (nd (PySem.W.boot_o_4 P) (nd (PySem.W.boot_o_8 P) (nd JI (nd JY (nd Ko (lf CH) (lf Di)) (nd KN (lf CT) (lf Dv))) (nd Kd (nd KA (lf vS) (lf K1)) (nd Ct (lf wg) (lf Lm)))) (nd JQ (nd J6 (nd Ku (lf CN) (lf Dm)) (nd Cn (lf C0) (lf Lg))) (nd Kk (nd KG (lf v7) (lf K7)) (nd CB (lf wm) .nil)))) (nd Fh (nd JM (nd J2 (nd E9 (lf vL) (lf wz)) (nd vA (lf CV) (lf Le))) (nd E2 (nd KC (lf vW) (lf Dr)) (nd Cv (lf C8) .nil))) (nd JU (nd J_ (nd Kw (lf (vO P)) (lf KZ)) (nd vD (lf C2) (lf Li))) (nd Km (nd KL (lf wa) (lf Du)) (nd CF (lf Dg) .nil))))) (nd (PySem.W.boot_o_6 P) (nd (PySem.W.boot_o_10 P) (nd JK (nd J0 (nd Kq (lf CJ) (lf Dk)) (nd KP (lf wb) (lf Lc))) (nd Kg (nd Fc (lf vU) (lf K3)) (nd vE (lf C6) (lf DC)))) (nd JS (nd J8 (nd E_ (lf vM) (lf KW)) (nd Cp (lf we) (lf Dz))) (nd E5 (nd KI (lf v9) (lf K9)) (nd vH (lf De) .nil)))) (nd EZ (nd JO (nd J4 (nd Ks (lf CL) (lf KS)) (nd Ck (lf CY) (lf Dy))) (nd Ki (nd Fd (lf vY) (lf K5)) (nd Cz (lf C_) .nil))) (nd (JW P) (nd Kb (nd Ky (lf vQ) (lf Dq)) (nd Cr (lf C4) (lf Lk))) (nd E6 (nd Fg (lf CQ) (lf La)) (nd vI (lf wq) .nil)))))))
noncomputable def Kf(P:Params):PySem.W.Frag:=[(3,Dl P),(52,E2),(53,E3),(57,E4),(58,E5),(62,E6),(63,E7),(67,E8),(68,E9),(74,E_),(75,Fa),(81,Fb),(82,Fc),(86,Fd),(87,Fe),(93,Ff),(94,Fg),(100,vA),(101,vB),(107,vC),(108,vD),(114,vE),(115,vF),(121,vG),(122,vH),(126,vI),(127,vJ),(131,vK),(132,vL),(138,vM),(139,vN),(162,wb),(163,wc),(169,wd),(170,we),(176,wg),(177,wj),(183,wk),(184,wm),(190,wq),(191,wt),(195,wu),(196,wz),(200,Dm),(201,Dn),(205,Dp),(206,Dq),(212,Dr),(213,Ds),(219,Dt),(220,Du),(224,Dv),(225,Dw),(229,Dx),(230,Dy),(234,Dz),(235,DA),(241,DB),(242,DC),(140,vO P),(142,vQ),(141,vP),(144,vS),(143,vR),(146,vU),(145,vT),(148,vW),(147,vV),(150,vY),(149,vX),(152,v7),(151,vZ),(154,v9),(153,v8),(156,wa),(155,v_)]
noncomputable def ads:List Addr:=[3,52,53,57,58,62,63,67,68,74,75,81,82,86,87,93,94,100,101,107,108,114,115,121,122,126,127,131,132,138,139,162,163,169,170,176,177,183,184,190,191,195,196,200,201,205,206,212,213,219,220,224,225,229,230,234,235,241,242,140,142,141,144,143,146,145,148,147,150,149,152,151,154,153,156,155]
def vw:Program:={PySem.Challenge.pw_cutstand_k80_deeds_written with main:={PySem.Challenge.pw_cutstand_k80_deeds_written.main with body:=[aU 1,aU 2,aU 4,aU 6,aU 7,aU 8,aU 9,aU 10,aU 12,aU 13,aU 14,aU 15,aU 16,aU 17,aU 18,aU 19,aU 20,aU 21,aU 22,aU 23,aU 24,aU 25,aU 26,aU 28,aU 29,aU 30,aU 31,aU 32,aU 33,aU 34,aU 35,aU 36,aU 37,aU 38,aU 39]}}
noncomputable def hk:PySem.W.Hook:=PySem.W.kHook Kf ads (λ_=>nofun)
theorem Fi:PySem.W.OpenLaw.wellSaid PySem.Challenge.rw_cutstand_k80_deeds_written=true:=nofun
noncomputable def Ln(w:World)(os:OsState):PySem.W.SharedT:=⟨Uo w.params,15,{},#[],{},187,os⟩
noncomputable def st1(w:World)(os:OsState):PySem.W.SharedT:=⟨Up w.params,197,{},#[],{},422,os⟩
noncomputable def mH(w:World)(os:OsState):PySem.W.SharedT:=⟨DD w.params,243,{},#[],{},479,os⟩
noncomputable def PU:List Stmt:=[aU 0,aU 1,aU 2,aU 3,aU 4,aU 5,aU 6,aU 7,aU 8,aU 9,aU 10,aU 11,aU 12,aU 13,aU 14,aU 15,aU 16,aU 17,aU 18,aU 19,aU 20,aU 21,aU 22,aU 23,aU 24,aU 25,aU 26,aU 27,aU 28,aU 29,aU 30,aU 31]
noncomputable def SX:List Stmt:=[aU 32,aU 33,aU 34,aU 35,aU 36,aU 37,aU 38,aU 39]
noncomputable def SY:List Stmt:=PU++(SX++[])
noncomputable def Lo:Env:={scope:=PySem.Challenge.pw_cutstand_k80_deeds_written.main.scope,locals:=mainNs,globals:=mainNs,cells:=[],code:=(.ref 13),frame:=some 14}
noncomputable abbrev wA:Code:=.body SY Lo
noncomputable abbrev wB:Pos:=⟨0,0,0,0⟩
noncomputable abbrev DE:Option Value:=(some (.ref 6))
theorem Uq:∀w,(PySem.W.fencedOpening treeTable PySem.Challenge.pw_cutstand_k80_deeds_written w 3156).map (λs=>(s.heap,s.gens,s.drawn,s.toks))=some (PySem.W.boot_heap w.params,#[],PySem.W.boot_drawn,PySem.W.boot_toks):=PySem.W.boot_open (nofun) (nofun) λs=>nofun
theorem Ur:∀w:World,((PySem.W.boot_heap w.params).isNs mainGlobals&&(#[]:Array GenState).size==0,(PySem.W.boot_heap w.params).objs.size,(PySem.W.boot_heap w.params).nsMap mainGlobals "__annotations__")=(true,11,DE):=by
 intro w
 kernel_rfl
theorem pg:∀(w:World)(os:OsState),PySem.W.topGo treeTable PySem.Challenge.pw_cutstand_k80_deeds_written w 11 DE 12 ⟨PySem.W.boot_heap w.params,#[],PySem.W.boot_drawn,PySem.W.boot_toks,os⟩ (PySem.W.topStub PySem.Challenge.pw_cutstand_k80_deeds_written)=some ((Ln w os).abs,⟨denote treeTable wA,wA,wB,[PySem.W.topFrame wB]⟩):=by
 intro w os
 kernel_rfl
theorem bl:∀(w:World)(os:OsState),PySem.W.segRun treeTable PySem.Challenge.pw_cutstand_k80_deeds_written w 11 DE 1 1 (Ln w os).abs (PySem.W.blockOf SY Lo wA wB [PySem.W.topFrame wB])=some (.next,(Ln w os).abs,wA,wB):=by
 intro w os
 kernel_rfl
theorem Us:∀(b:Bool)(w:World)(os:OsState),PySem.W.segRunT treeTable PySem.Challenge.pw_cutstand_k80_deeds_written (w.withFollow "special-get-raises" b) 11 DE 1 1293 (Ln (w.withFollow "special-get-raises" b) os) (PySem.W.piecesOf PU Lo wA wB [PySem.W.topFrame wB])=some (.next,st1 (w.withFollow "special-get-raises" b) os,wA,⟨102,0,103,65⟩):=by
 intro b w os;cases b<;>kernel_rfl
theorem Ut:∀(w:World)(os:OsState),PySem.W.segRunT treeTable PySem.Challenge.pw_cutstand_k80_deeds_written w 11 DE 1 1293 (Ln w os) (PySem.W.piecesOf PU Lo wA wB [PySem.W.topFrame wB])=some (.next,st1 w os,wA,⟨102,0,103,65⟩):=by
 intro w os;have h:=Us (w.params.followText "special-get-raises") w os;rw[PySem.World.withFollow_self]at h;exact h
theorem Uu:∀(w:World)(os:OsState),PySem.W.segRunT treeTable PySem.Challenge.pw_cutstand_k80_deeds_written w 11 DE 1 224 (st1 w os) (PySem.W.piecesOf SX Lo wA (⟨102,0,103,65⟩:Pos) [PySem.W.topFrame wB])=some (.next,mH w os,wA,⟨150,0,158,15⟩):=by
 intro w os
 kernel_rfl
theorem fn:∀(w:World)(os:OsState),PySem.W.topRun treeTable PySem.Challenge.pw_cutstand_k80_deeds_written w 11 DE 2 (mH w os).abs ⟨PySem.W.doneF .next,wA,(⟨150,0,158,15⟩:Pos),[PySem.W.topFrame wB]⟩=some (mH w os).abs:=by
 intro w os
 kernel_rfl
theorem PV:∀(w:World)(os:OsState),PySem.W.topRun treeTable PySem.Challenge.pw_cutstand_k80_deeds_written w 11 DE (12+(1+(1293+(224+(2))))) ⟨PySem.W.boot_heap w.params,#[],PySem.W.boot_drawn,PySem.W.boot_toks,os⟩ (PySem.W.topStub PySem.Challenge.pw_cutstand_k80_deeds_written)=some (mH w os).abs:=λw os=>PySem.W.go_top (pg w os) (PySem.W.piece_block (bl w os) (PySem.W.piece_app (PySem.W.segRun_of (Ut w os)) (PySem.W.piece_app (PySem.W.segRun_of (Uu w os)) (PySem.W.piece_nil (fn w os)))))
theorem Uv:∀(w:World)(os:OsState),(PySem.W.staticsOk (importedModules PySem.Challenge.pw_cutstand_k80_deeds_written.main.body) (PySem.W.boot_heap w.params) (PySem.W.absHeap (DD w.params) 243 {})&&PySem.W.namesBound PySem.Challenge.pw_cutstand_k80_deeds_written (PySem.W.absHeap (DD w.params) 243 {})&&PySem.W.gensDone (⟨PySem.W.absHeap (DD w.params) 243 {},#[],{},479,os⟩:Shared)&&PySem.W.laidKept (PySem.W.boot_heap w.params) (PySem.W.absHeap (DD w.params) 243 {}))=true:=by
 intro w os
 kernel_rfl
theorem Uw:∀(w:World)(os:OsState),PySem.W.openSeen vw ["DEED_WORDS"] (importedModules PySem.Challenge.pw_cutstand_k80_deeds_written.main.body) (λs=>PySem.W.xlAt vw [] s&&PySem.W.recOk [] s) true (⟨PySem.W.absHeap (DD w.params) 243 {},#[],{},479,os⟩:Shared)=PySem.W.openGood vw ["DEED_WORDS"]:=by
 intro w os
 kernel_rfl
theorem Ux:∀(w:World)(os:OsState),PySem.W.Hook.obs hk (⟨PySem.W.absHeap (DD w.params) 243 {},#[],{},479,os⟩:Shared)=PySem.W.Hook.val hk w:=by
 intro w os
 kernel_rfl
theorem Uy:PySem.W.LeftO PySem.Challenge.pw_cutstand_k80_deeds_written vw ["DEED_WORDS"] (λs=>PySem.W.xlAt vw [] s&&PySem.W.recOk [] s) (PySem.W.Hook.obs hk) (PySem.W.Hook.val hk) 3156 :=
 PySem.W.LeftO.of_pieces (H₀:=PySem.W.boot_heap) (H₁:=λP=>PySem.W.absHeap (DD P) 243 {}) Uq Ur PV rfl λw=>funext λos=>Prod.ext (Uv w os) (Prod.ext (Uw w os) (Ux w os))
end eA
end
section
namespace L2
open PySem PySem.Spec PyProof.Rows
abbrev bG:=Sum Int Str
noncomputable def lU:bG->Value->Bool
 | .inl k,v=>Value.isInt k v
 | .inr x,v=>Value.isStrOf x v
noncomputable def PX(w:World):bG->Int
 | .inl k=>hashInt k
 | .inr x=>hashStr w x
theorem bH:∀{k:bG}{v:Value},lU k v=true->(∃i t,k=Sum.inl i/\v=Value.int i t)\/(∃x t,k=Sum.inr x/\v=Value.str x t)
 | .inl i,v,h=>by
  obtain⟨t,e⟩:=Value.isInt_shape (k:=i) (v:=v) h;exact .inl ⟨i,t,rfl,e⟩
 | .inr x,v,h=>by
  obtain⟨t,e⟩:=Value.isStrOf_shape (x:=x) (v:=v) h;exact .inr ⟨x,t,rfl,e⟩
theorem tT(i:Int)(t:Tok):lU (.inl i) (.int i t)=true:=by simp[lU,Value.isInt]
theorem tU(x:Str)(t:Tok):lU (.inr x) (.str x t)=true:=by simp[lU,Value.isStrOf]
theorem Fj(a b:Int):decide ((Sum.inl a:bG)=Sum.inl b)=(a==b):=by
 by_cases e:a=b
 ·subst e;simp
 ·have h:¬(Sum.inl a:bG)=Sum.inl b:=λq=>e (Sum.inl.inj q);rw[df h];exact(lE.mpr e).symm
theorem Fl(a b:Str):decide ((Sum.inr a:bG)=Sum.inr b)=decide (a=b):=by
 by_cases e:a=b
 ·subst e;simp
 ·have h:¬(Sum.inr a:bG)=Sum.inr b:=λq=>e (Sum.inr.inj q);rw[df h,df e]
theorem Fm(a:Int)(b:Str):decide ((Sum.inl a:bG)=Sum.inr b)=false:=df (λq=>nomatch q)
theorem Fo(a:Str)(b:Int):decide ((Sum.inr a:bG)=Sum.inl b)=false:=df (λq=>nomatch q)
def bo(prog:Program)(w:World):PySem.KeyKind prog w bG where
 is:=lU
 hash:=PX w
 inj:=λv a b ha hb=>by
  rcases bH ha with⟨i,t,rfl,rfl⟩|⟨x,t,rfl,rfl⟩
  ·rcases bH hb with⟨j,u,rfl,e⟩|⟨y,u,rfl,e⟩
   ·injection e with e1 _;rw[e1]
   ·exact nomatch e
  ·rcases bH hb with⟨j,u,rfl,e⟩|⟨y,u,rfl,e⟩
   ·exact nomatch e
   ·injection e with e1 _;rw[e1]
 byValue:=λk v h=>by
  rcases bH h with⟨i,t,rfl,rfl⟩|⟨x,t,rfl,rfl⟩<;>rfl
 pyHash:=λhv h=>by
  rcases bH hv with⟨i,t,rfl,rfl⟩|⟨x,t,rfl,rfl⟩
  ·exact wpAny_pyHash_int h
  ·exact wpAny_pyHash_str h
 eqBool:=λhu hv h=>by
  rcases bH hu with⟨i,t,rfl,rfl⟩|⟨x,t,rfl,rfl⟩
  ·rcases bH hv with⟨j,u,rfl,rfl⟩|⟨y,u,rfl,rfl⟩
   ·rw[Fj]at h;exact wpAny_eqBool_int h
   ·rw[Fm]at h;exact SeqAt.EqAt.int_str i t y u _ _ _ _ h
  ·rcases bH hv with⟨j,u,rfl,rfl⟩|⟨y,u,rfl,rfl⟩
   ·rw[Fo]at h;exact SeqAt.EqAt.str_int x t j u _ _ _ _ h
   ·rw[Fl]at h;exact wpAny_eqBool_str h
 «strs»:=λk x t v h=>by
  rcases bH h with⟨i,u,rfl,e⟩|⟨y,u,rfl,e⟩
  ·exact nomatch e
  ·injection e with e1 _;subst e1;cases v<;>rfl
theorem nW(prog:Program)(w:World)(i:Int)(t:Tok):(bo prog w).is (.inl i) (.int i t)=true:=tT i t
theorem fx(prog:Program)(w:World)(x:Str)(t:Tok):(bo prog w).is (.inr x) (.str x t)=true:=tU x t
inductive V where
 | br | bl (b:Bool) | int (i:Int) | str (x:Str) | Lp (b:Array UInt8) | Fp (b:UInt64) | ref (a:Addr) | ty (n:String)
 deriving DecidableEq
noncomputable def RelV:V->Value->Prop
 | .br,u=>u=Value.none
 | .bl b,u=>u=Value.bool b
 | .int i,u=>∃t,u=Value.int i t
 | .str x,u=>∃t,u=Value.str x t
 | .Lp b,u=>∃t,u=Value.bytes b t
 | .Fp b,u=>∃t,u=Value.float b t
 | .ref a,u=>u=Value.ref a
 | .ty n,u=>u=Value.type n
abbrev aE:List V->List Value->Prop:=Paired RelV
theorem aE.length{xs:List V}{us:List Value}(r:aE xs us):xs.length=us.length:=Paired.length r
theorem aE.get:∀{xs:List V}{us:List Value}{i:Nat}{x:V},aE xs us->xs[i]?=some x->∃u,us[i]?=some u/\RelV x u
 | _,_,_,_,.nil,e=>by simp at e
 | _,_,0,_,.cons r _,e=>by simp at e;subst e;exact⟨_,rfl,r⟩
 | _,_,i+1,x,.cons _ t,e=>by
  obtain⟨u,h1,h2⟩:=aE.get (i:=i) (x:=x) t (by simpa using e);exact⟨u,by simpa using h1,h2⟩
theorem aE.set{x:V}{u:Value}(r:RelV x u):∀{xs:List V}{us:List Value}(i:Nat),aE xs us->aE (xs.set i x) (us.set i u)
 | _,_,_,.nil=>.nil
 | _,_,0,.cons _ t=>.cons r t
 | _,_,i+1,.cons q t=>.cons q (aE.set r i t)
theorem aE.append:∀{xs ys:List V}{us ws:List Value},aE xs us->aE ys ws->aE (xs++ys) (us++ws)
 | _,_,_,_,.nil,s=>s
 | _,_,_,_,.cons r t,s=>.cons r (aE.append t s)
theorem aE.take:∀{xs:List V}{us:List Value}(n:Nat),aE xs us->aE (xs.take n) (us.take n)
 | _,_,0,_=>.nil
 | _,_,_+1,.nil=>.nil
 | _,_,n+1,.cons r t=>.cons r (aE.take n t)
theorem aE.drop:∀{xs:List V}{us:List Value}(n:Nat),aE xs us->aE (xs.drop n) (us.drop n)
 | _,_,0,r=>r
 | _,_,_+1,.nil=>.nil
 | _,_,n+1,.cons _ t=>aE.drop n t
def jY:Option V->Option Value->Prop
 | some v,some u=>RelV v u
 | none,none=>True
 | _,_=>False
def KV{κ:Type}:List (κ×V)->List (κ×Value)->Prop:=Paired λ(p:κ×V) (q:κ×Value)=>p.1=q.1/\RelV p.2 q.2
noncomputable def kV:bG->V
 | .inl i=>.int i
 | .inr x=>.str x
inductive HO where
 | lst (xs:List V)
 | tup (xs:List V)
 | dK (ak:List (bG×V)) | dT (ak:List (List bG×V))
 | set (S:Int->Bool) (n:Nat)
 | ins (C dx:Addr) (fs:List (Str×V))
 | own (x:Addr)
 | xd (fs:List (Str×V))
 | met (f x:Addr)
 | gZ (lo hi:Int)
 | eX (o:Obj) (u:HO)
 | uY (ps:Array Value)
 | ext (φ:Heap->Prop)
abbrev Hp:=Addr->Option HO
noncomputable def bw(H:Hp)(a:Addr)(o:HO):Hp:=λb=>if b=a then some o else H b
theorem bx{H:Hp}{a:Addr}{o:HO}:bw H a o a=some o:=by unfold bw;rw[aG rfl]
theorem ar{H:Hp}{a b:Addr}{o:HO}(h:b≠a):bw H a o b=H b:=by unfold bw;rw[aR h]
theorem Lq{H:Hp}{a b:Addr}{o u:HO}(h:H a=some o)(h':H b=some u)(d:o≠u):a≠b:=by
 intro e;subst e;rw[h]at h';exact d (cx h')
theorem dR{H:Hp}{a b:Addr}{o:HO}(h:H a=some o)(h':H b=none):a≠b:=by
 intro e;subst e;rw[h]at h';cases h'
section
variable (P:Program) (w:World)
def bh(H:Hp)(h:Heap)(a:Addr):HO->Prop
  | .lst xs=>xs.length<=sizeLine/\∃(ax:List Value) (n:Nat),aE xs ax/\h.get? a=some {cls:=.type "list",data:=.seq ax.toArray n}
  | .tup xs=>xs.length<=sizeLine/\∃ax:List Value,aE xs ax/\IsTup h a ax.toArray
  | .dK ak=>ak.length<=sizeLine/\(a==sysModules)=false/\∃vs,KV ak vs/\h.DictOf (bo P w) a vs
  | .dT ak => ak.length <= sizeLine /\ (a == sysModules) = false /\ ∃ xs : List (List bG × Addr × Value),
      Paired (λ(p:List bG×V) (q:List bG×Addr×Value)=>p.1=q.1/\H q.2.1=some (.tup (p.1.map kV))/\RelV p.2 q.2.2) ak xs /\
      ∃o es ep,h.get? a=some o/\o.ExactDict/\o.data=.dict es ep/\es.toList=xs.map (entryOfKey (tupleKind (bo P w)))/\(xs.map (·.1)).Nodup
  | .set S n=>h.SetOf (intKind P w) a S n
  | .ins C dx fs => H dx = some (.own a) /\ fs.length <= 1000 /\ dx ≠ a /\ h.get? a = some (PySem.W.instObj C dx) /\
      ∃mA,h.Ns1 dx mA/\(∀f,jY (fs.lookup f) (mA f))/\PySem.Within mA (fs.map (·.1))
  | .own _=>∃o,h.get? a=some o
  | .xd fs=>∃mA,h.Ns1 a mA/\∀f,jY (fs.lookup f) (mA f)
  | .gZ lo hi=>∃t u v,h.get? a=some {cls:=.type "range",data:=.fields #[.int lo t,.int hi u,.int 1 v]}
  | .eX o u=>h.get? a=some o/\bh H h a u
  | .uY ps=>h.get? a=some {cls:=.none,data:=.fields ps}
  | .met f x=>h.get? a=some (PySem.W.methodObj (.ref f) (.ref x))
  | .ext φ=>φ h/\(∃o,h.get? a=some o)/\∀h1 h2:Heap,φ h1->(∀o,h1.get? a=some o->h2.get? a=some o)->φ h2
def gm(H:Hp)(h:Heap):Prop:=∀a o,H a=some o->bh P w H h a o
end
section
variable {P:Program} {w:World} {H H':Hp} {h h':Heap} {a:Addr} {o:HO}
theorem bh.lt(x:bh P w H h a o):a<h.objs.size:=by
 cases o with
 | lst xs=>obtain⟨_,_,_,_,e⟩:=x;exact bO e
 | tup xs=>obtain⟨_,_,_,p⟩:=x;exact p.lt
 | dK ak=>obtain⟨_,_,_,_,o,_,_,e,_⟩:=x;exact bO e
 | dT ak=>obtain⟨_,_,_,_,o,_,_,e,_⟩:=x;exact bO e
 | set S n=>obtain⟨o,_,_,_,e,_⟩:=x;exact bO e
 | ins C dx fs=>obtain⟨_,_,_,e,_⟩:=x;exact bO e
 | own y=>obtain⟨_,e⟩:=x;exact bO e
 | xd fs=>obtain⟨_,⟨_,_,_,e,_⟩,_⟩:=x;exact bO e
 | gZ lo hi=>obtain⟨_,_,_,e⟩:=x;exact bO e
 | eX ob u=>obtain⟨e,_⟩:=x;exact bO e
 | uY ps=>exact bO (show h.get? a=some _ from x)
 | met f y=>exact bO (show h.get? a=some _ from x)
 | ext φ=>obtain⟨_,⟨_,e⟩,_⟩:=x;exact bO e
theorem Paired.Lr{α β:Type}{F G:α->β->Prop}{Ls:List α}{Lu:List β}(p:Paired F Ls Lu)(f:∀a b,F a b->G a b):Paired G Ls Lu:=by
 induction p with
 | nil=>exact .nil
 | cons r t ih=>exact .cons (f _ _ r) ih
theorem bh.tV(x:bh P w H h a o)(k:∀b u,(b=a\/H b=some (.own a))->h.get? b=some u->h'.get? b=some u)(ho:∀b,H b=some (.own a)->H' b=some (.own a))(ht:∀b xs,H b=some (.tup xs)->H' b=some (.tup xs)):bh P w H' h' a o:=by
 induction o with
 | lst xs=>obtain⟨z,ax,n,r,e⟩:=x;exact⟨z,ax,n,r,k _ _ (.inl rfl) e⟩
 | tup xs=>obtain⟨z,ax,r,ob,e,c⟩:=x;exact⟨z,ax,r,ob,k _ _ (.inl rfl) e,c⟩
 | dK ak=>obtain⟨z,y,vs,r,ob,es,ep,e,c⟩:=x;exact⟨z,y,vs,r,ob,es,ep,k _ _ (.inl rfl) e,c⟩
 | dT ak =>
  obtain⟨z,y,xs,r,ob,es,ep,e,c⟩:=x;exact⟨z,y,xs,Paired.Lr r λp q z=>⟨z.1,ht _ _ z.2.1,z.2.2⟩,ob,es,ep,k _ _ (.inl rfl) e,c⟩
 | set S n=>obtain⟨ob,es,ep,t,e,c⟩:=x;exact⟨ob,es,ep,t,k _ _ (.inl rfl) e,c⟩
 | ins C dx fs =>
  obtain⟨d,z,ne,e,mA,⟨od,es,ep,e2,c⟩,r⟩:=x;exact⟨ho _ d,z,ne,k _ _ (.inl rfl) e,mA,⟨od,es,ep,k _ _ (.inr d) e2,c⟩,r⟩
 | own y=>obtain⟨ob,e⟩:=x;exact⟨ob,k _ _ (.inl rfl) e⟩
 | xd fs=>obtain⟨mA,⟨od,es,ep,e,c⟩,r⟩:=x;exact⟨mA,⟨od,es,ep,k _ _ (.inl rfl) e,c⟩,r⟩
 | gZ lo hi=>obtain⟨t,u,v,e⟩:=x;exact⟨t,u,v,k _ _ (.inl rfl) e⟩
 | eX ob u ih=>obtain⟨e,q⟩:=x;exact⟨k _ _ (.inl rfl) e,ih q⟩
 | uY ps =>
  have e:h.get? a=some {cls:=.none,data:=.fields ps}:=x;show h'.get? a=some {cls:=.none,data:=.fields ps};exact k a _ (.inl rfl) e
 | met f y =>
  have e:h.get? a=some (PySem.W.methodObj (.ref f) (.ref y)):=x;show h'.get? a=some (PySem.W.methodObj (.ref f) (.ref y));exact k a _ (.inl rfl) e
 | ext φ=>obtain⟨p,⟨o,e⟩,st⟩:=x;exact⟨st _ _ p λo q=>k _ _ (.inl rfl) q,⟨o,k _ _ (.inl rfl) e⟩,st⟩
theorem gm.lt(x:gm P w H h)(e:H a=some o):a<h.objs.size:=(x a o e).lt
theorem gm.fresh(x:gm P w H h)(e:h.objs.size<=a):H a=none:=by
 cases q:H a with
 | none=>rfl
 | some u=>exact absurd (eV (x.lt q) e) (jW _)
theorem gm.kept(x:gm P w H h)(k:∀b u,h.get? b=some u->h'.get? b=some u):gm P w H h':=λa o e =>
 (x a o e).tV (λb u _ q=>k b u q) (λ_ q=>q) λ_ _ q=>q
theorem gm.laid(x:gm P w H h)(k:∀b u,h.get? b=some u->h'.get? b=some u)(hp:h.objs.size<=a)(new:bh P w (bw H a o) h' a o):gm P w (bw H a o) h':=λb u e=>by
 have hn:=x.fresh hp;by_cases hb:b=a
 ·subst hb;rw[bx]at e;cases e;exact new
 ·rw[ar hb]at e;exact(x b u e).tV (λc v _ q=>k c v q) (λc q=>by rw[ar (dR q hn)];exact q) λc xs q=>by rw[ar (dR q hn)];exact q
end
noncomputable def Rd(H:Hp)(a:Addr)(u:HO):Prop:=H a=some u\/∃o,H a=some (.eX o u)
theorem Rd.ok{P:Program}{w:World}{H:Hp}{h:Heap}{a:Addr}{u:HO}(r:Rd H a u)(x:gm P w H h):bh P w H h a u:=by
 rcases r with r | ⟨o,r⟩
 ·exact x a u r
 ·obtain⟨_,q⟩:=x a _ r;exact q
noncomputable def Lv:Option HO->Prop
 | some (.lst _)=>True
 | some (.dK _)=>True
 | some (.dT _)=>True
 | some (.set _ _)=>True
 | some (.ins _ _ _)=>True
 | some (.ext _)=>True
 | _=>False
section
variable {P:Program} {w:World} {H:Hp} {h h':Heap} {x e:Addr} {o':HO}
theorem gm.write(ok:gm P w H h)(mu:Lv (H x))(he:e=x\/H e=some (.own x))(k:∀b u,b≠e->h.get? b=some u->h'.get? b=some u)(Ja:∃u,h'.get? e=some u)(new:bh P w (bw H x o') h' x o'):gm P w (bw H x o') h':=λb u q=>by
 have Lw:∀c y,H c=some (.own y)->c≠x:=λc y r z=>by subst z;rw[r]at mu;exact mu
 have PY:∀c xs,H c=some (.tup xs)->c≠x:=λc xs r z=>by subst z;rw[r]at mu;exact mu
 by_cases hb:b=x
 ·subst hb;rw[bx]at q;cases q;exact new
 ·rw[ar hb]at q;by_cases Fq:b=e
  ·have q':H b=some (.own x):=by
    rcases he with z | z
    ·exact absurd (Fq.trans z) hb
    ·rw[Fq];exact z
   rw[q]at q';cases q';obtain⟨v,hv⟩:=Ja;exact⟨v,by rw[Fq];exact hv⟩
  ·refine(ok b u q).tV (λc v hc r=>k c v ?_ r) (λc r=>by rw[ar (Lw c b r)];exact r) λc xs r=>by rw[ar (PY c xs r)];exact r
   rcases hc with rfl | hc
   ·exact Fq
   ·rintro rfl;rcases he with z | z
    ·exact Lw c b hc z
    ·rw[hc]at z;cases z;exact hb rfl
end
structure Un (fs ex:List Addr) (H H':Hp) (h h':Heap):Prop where
 keep:∀b o,h.get? b=some o->H b=none->b∉fs->b∉ex->h'.get? b=some o
 slot:∀b o,h.get? b=some o->H b=none->b∈fs->b∉ex->∃sl,h'.get? b=some {o with slots:=sl}
 free:∀b o,h.get? b=some o->H b=none->b∉ex->H' b=none
 there:∀b o,h.get? b=some o->b∉ex->∃o',h'.get? b=some o'
 ft:∀b xs,H b=some (.tup xs)->H' b=some (.tup xs)
 mI:∀b o u,H b=some (.eX o u)->H' b=some (.eX o u)
 nX:∀b ps,H b=some (.uY ps)->∃jv,H' b=some (.uY (ps++jv))
section
variable {fs Uz ex Xq:List Addr} {H H1 H2:Hp} {h h1 h2 h':Heap} {a x e:Addr} {o:HO}
theorem Un.any(u:Un fs ex H H1 h h1){b:Addr}{ob:Obj}(q:h.get? b=some ob)(n:H b=none)(hx:b∉ex):∃sl,h1.get? b=some {ob with slots:=sl}:=by
 by_cases hb:b∈fs
 ·exact u.slot b ob q n hb hx
 ·exact⟨ob.slots,u.keep b ob q n hb hx⟩
theorem Un.kept(k:∀b u,h.get? b=some u->h'.get? b=some u):Un fs ex H H h h' :=
 ⟨λb ob q _ _ _=>k b ob q,λb ob q _ _ _=>⟨ob.slots,k b ob q⟩,λ_ _ _ n _=>n,λb ob q _=>⟨ob,k b ob q⟩,λ_ _ q=>q,λ_ _ _ q=>q,λ_ ps q=>⟨#[],by rw[q];simp⟩⟩
theorem Un.refl:Un fs ex H H h h:=Un.kept λ_ _ q=>q
theorem Un.laid(k:∀b u,h.get? b=some u->h'.get? b=some u)(hp:h.objs.size<=a)(hn:H a=none):Un fs ex H (bw H a o) h h' where
 keep:=λb u q _ _ _=>k b u q
 slot:=λb u q _ _ _=>⟨u.slots,k b u q⟩
 free:=λb u q n _=>by rw[ar (eM (eV (bO q) hp))];exact n
 there:=λb u q _=>⟨u,k b u q⟩
 ft:=λb xs q=>by rw[ar (dR q hn)];exact q
 mI:=λb u xs q=>by rw[ar (dR q hn)];exact q
 nX:=λb ps q=>⟨#[],by rw[ar (dR q hn),q];simp⟩
theorem Un.write(mu:Lv (H x))(he:e=x\/H e=some (.own x))(k:∀b u,b≠e->h.get? b=some u->h'.get? b=some u)(Ja:∃u,h'.get? e=some u):Un fs ex H (bw H x o) h h':=by
 have hx:∀b,H b=none->b≠x:=λb n z=>by subst z;rw[n]at mu;exact mu
 have hb:∀b,H b=none->b≠e:=λb n z=>by
  subst z;rcases he with r | r
  ·exact hx b n r
  ·rw[n]at r;cases r
 have hm:∀b u,H b=some u->¬Lv (some u)->b≠x:=λb u q nm z=>by subst z;rw[q]at mu;exact nm mu
 refine⟨λb u q n _ _=>k b u (hb b n) q,λb u q n _ _=>⟨u.slots,k b u (hb b n) q⟩,λb u q n _=>by rw[ar (hx b n)];exact n,λb u q _=>?_,
  λb xs q=>by rw[ar (hm b _ q λz=>z)];exact q,λb u xs q=>by rw[ar (hm b _ q λz=>z)];exact q,λb ps q=>⟨#[],by rw[ar (hm b _ q λz=>z),q];simp⟩⟩
 by_cases Fq:b=e
 ·subst Fq;exact Ja
 ·exact⟨u,k b u Fq q⟩
end
noncomputable def OM(h:Heap)(H:Hp):List Addr:=(List.range h.objs.size).filter λa=>(H a).isSome
def mJ(h:Heap)(H:Hp):Heap:=PySem.W.hideAll h (OM h H)
theorem tX(h:Heap)(H:Hp):(mJ h H).objs.size=h.objs.size:=PySem.W.hideAll_size _ _
theorem wC{h:Heap}{H:Hp}{b:Addr}{o:Obj}(e:h.get? b=some o)(n:H b=none):(mJ h H).get? b=some o :=
 PySem.W.hideAll_get _ e λhm=>by
  have q:(H b).isSome=true:=(List.mem_filter.mp hm).2;rw[n]at q;simp at q
theorem Ac{h:Heap}{H:Hp}{b:Addr}{o:Obj}(e:(mJ h H).get? b=some o):h.get? b=some o/\H b=none:=by
 have e':h.get? b=some o:=PySem.W.of_hideAll (OM h H) e;refine⟨e',?_⟩
 cases q:H b with
 | none=>rfl
 | some x =>
  have hm:b∈OM h H:=List.mem_filter.mpr ⟨List.mem_range.mpr (bO e'),by simp[q]⟩;have z:(mJ h H).get? b=none:=PySem.W.hideAll_none (OM h H) hm;rw[z]at e;cases e
structure Mod (K:PySem.W.Frag) (mg:Str->Option Value) (base:Heap):Prop where
 ON:K.In base
 glob:base.Ns mainGlobals mg
 blt:∃mb,base.Ns builtinsNs mb/\∀x:Str,x≠ "__name__" -> mb x=bootBuiltins x
 nolimit:base.NoLimit
structure Cx where
 prog:Program
 w:World
 K:PySem.W.Frag
 mg:Str->Option Value
 base:Heap
 A:Around
 N:List Str
 dg:Shared
 H₀:Hp
 env:Env
 outer:List Env
 stack:List Env
 ex:List Addr
 fn:Str->Bool
 calm:Bool
 pn:List (Addr×Obj)
 xe:Value->Shared->Prop
noncomputable def wD(l:List Env):List Addr:=l.filterMap (·.frame)
abbrev Cx.fs(X:Cx):List Addr:=wD X.outer
noncomputable def OO(sc:Scope)(x:Str):Prop:=sc.names.lookup x=some .local\/sc.names.lookup x=some .cell\/sc.names.lookup x=some .free
noncomputable def Loc(sc:Scope)(x:Str):Prop:=sc.names.lookup x=some .local\/sc.names.lookup x=some .cell
noncomputable def Look(env:Env)(h:Heap)(m:Str->Option Value)(x:Str)(u:Value):Prop :=
 (env.kindOf x=some .local/\m x=some u)\/((env.kindOf x=some .cell\/env.kindOf x=some .free)/\∃c,env.cells.lookup x=some c/\h.IsCell c (some u))
structure Cx.Ok (X:Cx):Prop where
 mod:Mod X.K X.mg X.base
 kind:X.env.scope.kind=.function
 glob:X.env.globals=mainGlobals
 blt:X.env.builtins=builtinsNs
 above:X.dg.heap.objs.size<=X.env.locals
 inj:∀x y c,X.env.cells.lookup x=some c->X.env.cells.lookup y=some c->x=y
 has:∀x,(X.env.kindOf x=some .cell\/X.env.kindOf x=some .free)->∃c,X.env.cells.lookup x=some c
 DF:∀x c,X.fn x=true->X.env.cells.lookup x=some c->X.dg.heap.objs.size<=c
 hd:X.calm=true->X.A.handled=none
 frames:X.A.frames=some X.stack
 Jb:X.stack=X.outer\/(X.stack=X.env::X.outer/\X.env.frame=some X.env.locals)
 OP:∀b∈X.ex,b≠X.env.locals/\∀x c,X.env.cells.lookup x=some c->c≠b
 bs:∀b o,X.base.get? b=some o->X.dg.heap.get? b=some o/\X.H₀ b=none
 Ad:X.base.objs.size<=X.dg.heap.objs.size
 tY:∀b o,X.base.get? b=some o->b∉X.ex
 tZ:∀b∈X.ex,b∉X.fs
 jw:X.dg.heap.FunFrames X.base X.outer
 Ft:∀b∈X.fs,X.H₀ b=none
structure Inv (X:Cx) (pins:List (Addr×Obj)) (σ:List (Option V)) (H:Hp) (s:Shared):Prop where
 ok:X.Ok
 os:s.os=X.dg.os
 bare:AllBare s.gens
 base:Un X.fs X.ex X.H₀ H X.dg.heap s.heap
 loc:∃m,s.heap.Ns X.env.locals m/\∀(i:Nat)(x:Str)(v:V),X.N[i]?=some x->σ[i]?=some (some v)->OO X.env.scope x->∃u,RelV v u/\Look X.env s.heap m x u
 cell:∀x c,X.env.cells.lookup x=some c->∃v,s.heap.IsCell c v
 free:H X.env.locals=none
 fy:∀x c,X.env.cells.lookup x=some c->H c=none
 pin:∀p∈X.pn++pins,s.heap.get? p.1=some p.2/\H p.1=none/\p.1≠X.env.locals/\p.1∉X.fs/\∀v,p.2.data≠.cell v
 bc:gm X.prog X.w H s.heap
 len:σ.length=X.N.length
section
variable {X:Cx} {pins:List (Addr×Obj)} {σ:List (Option V)} {H H':Hp} {s:Shared} {h':Heap}
theorem Cx.Ok.PZ(ok:X.Ok){b:Addr}{o:Obj}(e:X.base.get? b=some o):b∉X.fs:=λhb=>by
 have:=(ok.jw.mem hb).1;rw[e]at this;cases this
theorem Inv.bs(I:Inv X pins σ H s):∀b o,X.base.get? b=some o->s.heap.get? b=some o/\H b=none:=λb o e =>
 ⟨I.base.keep b o (I.ok.bs b o e).1 (I.ok.bs b o e).2 (I.ok.PZ e) (I.ok.tY b o e),I.base.free b o (I.ok.bs b o e).1 (I.ok.bs b o e).2 (I.ok.tY b o e)⟩
theorem Inv.bk(I:Inv X pins σ H s):∀b o,X.base.get? b=some o->s.heap.get? b=some o:=λb o e=>(I.bs b o e).1
theorem Inv.mod(I:Inv X pins σ H s):Mod X.K X.mg X.base:=I.ok.mod
theorem Inv.g7(I:Inv X pins σ H s):X.K.In s.heap:=I.ok.mod.ON.keeps I.bk
theorem Inv.lt(I:Inv X pins σ H s):X.env.locals<s.heap.objs.size:=let ⟨_,hn,_⟩:=I.loc;hn.lt
theorem Inv.sz(I:Inv X pins σ H s):X.dg.heap.objs.size<=s.heap.objs.size:=d7 I.ok.above (vv I.lt)
theorem Inv.Lx(I:Inv X pins σ H s){a:Addr}(h:s.heap.objs.size<=a):a∉X.fs:=λhb=>by
 obtain⟨_,o,ho,_⟩:=I.ok.jw.mem hb;exact absurd (eV (bO ho) (d7 I.sz h)) (jW _)
theorem Inv.Fv(I:Inv X pins σ H s):∀x c,X.env.cells.lookup x=some c->c≠X.env.locals:=λx c e z=>by
 obtain⟨v,o,ho,hd⟩:=I.cell x c e;obtain⟨m,⟨o',es,ep,wF,UA,_⟩,_⟩:=I.loc;rw[z,wF]at ho;cases ho;rw[UA]at hd;cases hd
theorem Inv.jw(I:Inv X pins σ H s):s.heap.FunFrames X.base X.outer:=by
 have all:∀(l:List Env),(∀b∈wD l,b∈X.fs)->X.dg.heap.FunFrames X.base l->s.heap.FunFrames X.base l:=by
  intro l
  induction l with
  | nil=>intro _ _;trivial
  | cons env r ih =>
   intro hs hl;obtain⟨hk,⟨L,o,hf,hn,ho,hd⟩,hr⟩:=hl;have hL:L∈X.fs:=hs L (by unfold wD;rw[tw,hf];exact cD);obtain⟨sl,e⟩:=I.base.slot L o ho (I.ok.Ft L hL) hL λz=>I.ok.tZ L z hL;exact⟨hk,⟨L,_,hf,hn,e,hd⟩,ih (λb hb=>hs b (by unfold wD;rw[tw,hf];exact du _ hb)) hr⟩
 exact all X.outer (λ_ hb=>hb) I.ok.jw
theorem Inv.stack(I:Inv X pins σ H s):s.heap.FunFrames X.base X.stack:=by
 rcases I.ok.Jb with e | ⟨e,hf⟩
 ·rw[e];exact I.jw
 ·rw[e];obtain⟨m,hn,_⟩:=I.loc;refine .cons (by rw[I.ok.kind];decide) hf hn ?_ I.jw;exact Heap.get?_none_of_le (d7 I.ok.Ad I.ok.above)
theorem Inv.pV(I:Inv X pins σ H s):∀b∈wD X.stack,b∈X.env.locals::X.fs:=λb hb=>by
 rcases I.ok.Jb with e | ⟨e,hf⟩
 ·rw[e]at hb;exact du _ hb
 ·rw[e]at hb;unfold wD at hb;rw[tw,hf]at hb;exact hb
theorem Inv.qZ(I:Inv X pins σ H s):∀b∈wD X.stack,H b=none:=λb hb=>by
 rcases bF.mp (I.pV b hb)with e | hb
 ·rw[e];exact I.free
 ·obtain⟨_,o,ho,_⟩:=I.ok.jw.mem hb;exact I.base.free b o ho (I.ok.Ft b hb) λz=>I.ok.tZ b z hb
theorem Inv.step{g':Array GenState}{t':Nat}{d':Drawn}{ch:List Addr}(I:Inv X pins σ H s)(zC:∀b∈ch,(b∈X.ex\/X.dg.heap.objs.size<=b)/\b≠X.env.locals/\(∀x c,X.env.cells.lookup x=some c->c≠b)/\∀p∈X.pn++pins,p.1≠b)(keep:∀b o,b≠X.env.locals->b∉X.fs->b∉ch->s.heap.get? b=some o->H b=none->h'.get? b=some o)(slot:∀b o,b≠X.env.locals->b∈X.fs->b∉ch->s.heap.get? b=some o->H b=none->∃sl,h'.get? b=some {o with slots:=sl})(free:∀b o,b∉ch->s.heap.get? b=some o->H b=none->H' b=none)(there:∀b o,b∉ch->s.heap.get? b=some o->∃o',h'.get? b=some o')(ft:∀b xs,H b=some (.tup xs)->H' b=some (.tup xs))(mI:∀b o u,H b=some (.eX o u)->H' b=some (.eX o u))(nX:∀b ps,H b=some (.uY ps)->∃jv,H' b=some (.uY (ps++jv)))(ns:∀m,s.heap.Ns X.env.locals m->h'.Ns X.env.locals m)(bc:gm X.prog X.w H' h')(hg:AllBare g'):Inv X pins σ H' {s with heap:=h',gens:=g',drawn:=d',toks:=t'}:=by
 have Ly:∀b o,X.dg.heap.get? b=some o->b≠X.env.locals:=λb o e=>eM (eV (bO e) I.ok.above)
 have OQ:∀b o,X.dg.heap.get? b=some o->b∉X.ex->b∉ch:=λb o e hx hb=>by
  rcases(zC b hb).1 with z | z
  ·exact hx z
  ·exact absurd (eV (bO e) z) (jW _)
 have cellK:∀x c,X.env.cells.lookup x=some c->∀v,s.heap.IsCell c v->h'.IsCell c v:=λx c e v ⟨o,ho,hd⟩=>by
  have Lz:c∉ch:=λz=>(zC c z).2.2.1 x c e rfl;by_cases hc:c∈X.fs
  ·obtain⟨sl,q⟩:=slot c o (I.Fv x c e) hc Lz ho (I.fy x c e);exact⟨_,q,hd⟩
  ·exact⟨o,keep c o (I.Fv x c e) hc Lz ho (I.fy x c e),hd⟩
 refine⟨I.ok,I.os,hg,⟨λb o e n hb hx=>?_,λb o e n hb hx=>?_,λb o e n hx=>?_,λb o e hx=>?_,λb xs e=>ft b xs (I.base.ft b xs e),λb o xs e=>mI b o xs (I.base.mI b o xs e),λb ps e=>?_⟩,?_,λx c e=>?_,?_,λx c e=>?_,λp hp=>?_,bc,I.len⟩
 ·exact keep b o (Ly b o e) hb (OQ b o e hx) (I.base.keep b o e n hb hx) (I.base.free b o e n hx)
 ·obtain⟨sl,e1⟩:=I.base.slot b o e n hb hx;obtain⟨UB,e2⟩:=slot b _ (Ly b o e) hb (OQ b o e hx) e1 (I.base.free b o e n hx);exact⟨UB,e2⟩
 ·obtain⟨o',e1⟩:=I.base.there b o e hx;exact free b o' (OQ b o e hx) e1 (I.base.free b o e n hx)
 ·obtain⟨o',e1⟩:=I.base.there b o e hx;exact there b o' (OQ b o e hx) e1
 ·obtain⟨m1,e1⟩:=I.base.nX b ps e;obtain⟨m2,e2⟩:=nX b _ e1;exact⟨m1++m2,by rw[e2,Array.append_assoc]⟩
 ·obtain⟨m,hn,hl⟩:=I.loc;refine⟨m,ns m hn,λi x v e1 e2 e3=>?_⟩;obtain⟨u,r,l⟩:=hl i x v e1 e2 e3;refine⟨u,r,?_⟩;rcases l with l | ⟨k,c,e,z⟩
  ·exact .inl l
  ·exact .inr ⟨k,c,e,cellK x c e _ z⟩
 ·obtain⟨v,z⟩:=I.cell x c e;exact⟨v,cellK x c e v z⟩
 ·obtain⟨m,⟨o,_,_,ho,_⟩,_⟩:=I.loc;exact free _ o (λz=>(zC _ z).2.1 rfl) ho I.free
 ·obtain⟨v,o,ho,hd⟩:=I.cell x c e;exact free c o (λz=>(zC c z).2.2.1 x c e rfl) ho (I.fy x c e)
 ·obtain⟨e,n,ne,nf,d⟩:=I.pin p hp;have Lz:p.1∉ch:=λz=>(zC p.1 z).2.2.2 p hp rfl;exact⟨keep p.1 p.2 ne nf Lz e n,free p.1 p.2 Lz e n,ne,nf,d⟩
theorem Inv.un{t':Nat}(I:Inv X pins σ H s)(u:Un X.fs [] H H' s.heap h')(bc:gm X.prog X.w H' h'):Inv X pins σ H' {s with heap:=h',toks:=t'}:=by
 obtain⟨m,⟨o,es,ep,ho,r⟩,_⟩:=id I.loc;obtain⟨sl,hL⟩:=u.any ho I.free (by simp)
 exact I.step (g':=s.gens) (d':=s.drawn) (ch:=[]) (λ_ z=>nomatch z) (λb o _ hb _ e n=>u.keep b o e n hb (by simp)) (λb o _ hb _ e n=>u.slot b o e n hb (by simp)) (λb o _ e n=>u.free b o e n (by simp)) (λb o _ e=>u.there b o e (by simp)) u.ft u.mI u.nX (λm' hm=>by
  obtain⟨o',P0,P1,wF,r'⟩:=hm;rw[ho]at wF;cases wF;exact⟨_,P0,P1,hL,r'⟩) bc I.bare
theorem Inv.call{g':Array GenState}{t':Nat}{d':Drawn}{ch:List Addr}(I:Inv X pins σ H s)(u:Un (wD X.stack) ch H H' s.heap h')(bc:gm X.prog X.w H' h')(hg:AllBare g')(zC:∀b∈ch,(b∈X.ex\/X.dg.heap.objs.size<=b)/\b≠X.env.locals/\(∀x c,X.env.cells.lookup x=some c->c≠b)/\∀p∈X.pn++pins,p.1≠b):Inv X pins σ H' {s with heap:=h',gens:=g',drawn:=d',toks:=t'}:=by
 obtain⟨m,⟨o,es,ep,ho,r⟩,_⟩:=id I.loc;obtain⟨sl,hL⟩:=u.any ho I.free λz=>(zC _ z).2.1 rfl
 exact I.step (ch:=ch) zC (λb o hL hb hc e n=>u.keep b o e n (λz=>(bF.mp (I.pV b z)).elim hL hb) hc) (λb o _ _ hc e n=>u.any e n hc) (λb o hc e n=>u.free b o e n hc) (λb o hc e=>u.there b o e hc) u.ft u.mI u.nX (λm' hm=>by
  obtain⟨o',P0,P1,wF,r'⟩:=hm;rw[ho]at wF;cases wF;exact⟨_,P0,P1,hL,r'⟩) bc hg
theorem Inv.turned{t':Nat}{it:Addr}(I:Inv X pins σ H s)(k:∀b o,b≠it->s.heap.get? b=some o->h'.get? b=some o)(hn:H it=none)(hL:it≠X.env.locals)(h1:it∈X.ex\/X.dg.heap.objs.size<=it)(h2:∀x c,X.env.cells.lookup x=some c->c≠it)(h3:∀p∈X.pn++pins,p.1≠it):Inv X pins σ H {s with heap:=h',toks:=t'}:=by
 have LA:∀b u,H b=some u->b≠it:=λb u e z=>by rw[z,hn]at e;cases e
 refine I.step (g':=s.gens) (d':=s.drawn) (ch:=[it]) (λb hb=>?_) (λb o _ _ hc e _=>k b o (λz=>hc (by simp[z])) e) (λb o _ _ hc e _=>⟨o.slots,k b o (λz=>hc (by simp[z])) e⟩) (λ_ _ _ _ n=>n)
  (λb o hc e=>⟨o,k b o (λz=>hc (by simp[z])) e⟩) (λ_ _ e=>e) (λ_ _ _ e=>e) (λb ps e=>⟨#[],by rw[e];simp⟩) (λm hm=>?_) (λb u e=>?_) I.bare
 ·have e:b=it:=by simpa using hb
  subst e;exact⟨h1,hL,h2,h3⟩
 ·obtain⟨o,es,ep,ho,r⟩:=hm;exact⟨o,es,ep,k _ o (ju hL) ho,r⟩
 ·refine(I.bc b u e).tV (λc v hc q=>k c v ?_ q) (λ_ q=>q) λ_ _ q=>q;rcases hc with z | z
  ·rw[z];exact LA b u e
  ·exact LA c _ z
theorem Inv.tok(I:Inv X pins σ H s)(t:Nat):Inv X pins σ H {s with toks:=t}:=I.un (h':=s.heap) (t':=t) Un.refl I.bc
theorem Inv.kept{t':Nat}(I:Inv X pins σ H s)(k:∀b u,s.heap.get? b=some u->h'.get? b=some u):Inv X pins σ H {s with heap:=h',toks:=t'}:=I.un (Un.kept k) (I.bc.kept k)
theorem Inv.laid{a:Addr}{o:HO}{t':Nat}(I:Inv X pins σ H s)(k:∀b u,s.heap.get? b=some u->h'.get? b=some u)(hp:s.heap.objs.size<=a)(new:bh X.prog X.w (bw H a o) h' a o):Inv X pins σ (bw H a o) {s with heap:=h',toks:=t'}:=I.un (Un.laid k hp (I.bc.fresh hp)) (I.bc.laid k hp new)
theorem Inv.write{x e:Addr}{o:HO}{t':Nat}(I:Inv X pins σ H s)(mu:Lv (H x))(he:e=x\/H e=some (.own x))(k:∀b u,b≠e->s.heap.get? b=some u->h'.get? b=some u)(Ja:∃u,h'.get? e=some u)(new:bh X.prog X.w (bw H x o) h' x o):Inv X pins σ (bw H x o) {s with heap:=h',toks:=t'}:=I.un (Un.write mu he k Ja) (I.bc.write mu he k Ja new)
theorem Inv.mK{DG:List (Addr×Obj)}(I:Inv X pins σ H s)(h:∀p∈DG,s.heap.get? p.1=some p.2/\H p.1=none/\p.1≠X.env.locals/\p.1∉X.fs/\∀v,p.2.data≠.cell v):Inv X DG σ H s :=
 ⟨I.ok,I.os,I.bare,I.base,I.loc,I.cell,I.free,I.fy,λp hp=>(gW.mp hp).elim (λz=>I.pin p (zS _ z)) (h p),I.bc,I.len⟩
theorem nY{N:List Str}(hN:N.Nodup){i j:Nat}{x:Str}(a:N[i]?=some x)(b:N[j]?=some x):i=j:=by
 obtain⟨h1,e1⟩:=eU.mp a;obtain⟨h2,e2⟩:=eU.mp b;exact(List.getElem_inj hN).mp (e1.trans e2.symm)
theorem t4{M:Model}{A:Around}{E:Value->Shared->Prop}{i:Nat}{x:Str}{v:V}{u:Value}{Q:Unit->Shared->Prop}(I:Inv X pins σ H s)(hN:X.N.Nodup)(hi:X.N[i]?=some x)(hx:Loc X.env.scope x)(r:RelV v u)(h:∀s',Inv X pins (σ.set i (some v)) H s'->(∃a,Heap.SameBut a s.heap s'.heap/\(a=X.env.locals\/X.env.cells.lookup x=some a))->Q () s')(hf:X.fn x=true\/X.env.scope.names.lookup x=some .local:=by first | exact .inl rfl | exact .inr rfl | assumption):wpAny M A (storeName X.env x u) Q E s:=by
 obtain⟨m,hn,hl⟩:=id I.loc;have P2:(X.env.scope.kind == .class||(X.env.scope.kind == .module&&X.env.locals != X.env.globals))=false:=by rw[I.ok.kind];rfl
 have LB:i<σ.length:=by rw[I.len];exact(eU.mp hi).1
 have Fv:=I.Fv
 have tracked:∀{a:Addr}{h':Heap},(∃o,s.heap.get? a=some o/\H a=none)->Heap.SameBut a s.heap h'->gm X.prog X.w H h':=λ{a h'} ha hs b ob e=>by
  obtain⟨_,_,nZ⟩:=ha;refine(I.bc b ob e).tV (λc w' hc q=>(hs.2 c ?_).trans q) (λ_ q=>q) λ_ _ q=>q;rintro rfl;rcases hc with rfl | hc
  ·rw[nZ]at e;cases e
  ·rw[nZ]at hc;cases hc
 rcases hx with hk | hk
 ·refine wpAny_storeName_local hk hn (λh' UC hs=>?_) P2;obtain⟨oL,_,_,UD,_⟩:=id hn;refine h _ ⟨I.ok,I.os,I.bare,⟨λb o e n hb hx=>?_,λb o e n hb hx=>?_,I.base.free,λb o e hx=>?_,I.base.ft,I.base.mI,I.base.nX⟩,⟨_,UC,λj y v' e1 e2 e3=>?_⟩,λy c e=>?_,I.free,I.fy,λp hp=>?_,tracked ⟨oL,UD,I.free⟩ hs,by simpa using I.len⟩ ⟨_,hs,.inl rfl⟩
  ·exact(hs.2 b (eM (eV (bO e) I.ok.above))).trans (I.base.keep b o e n hb hx)
  ·obtain⟨sl,e1⟩:=I.base.slot b o e n hb hx;exact⟨sl,(hs.2 b (eM (eV (bO e) I.ok.above))).trans e1⟩
  ·obtain⟨o',e1⟩:=I.base.there b o e hx;exact⟨o',(hs.2 b (eM (eV (bO e) I.ok.above))).trans e1⟩
  ·by_cases hj:j=i
   ·subst hj;rw[hi]at e1;cases e1;rw[tu LB]at e2;cases e2;exact⟨u,r,.inl ⟨hk,by simp⟩⟩
   ·rw[nR (ju hj)]at e2;obtain⟨u',r',q⟩:=hl j y v' e1 e2 e3;refine⟨u',r',?_⟩;rcases q with⟨k,e⟩|⟨k,c,e,z⟩
    ·refine .inl ⟨k,?_⟩;have:y≠x:=λe=>hj (nY hN e1 (e▸hi));simp[this,e]
    ·exact .inr ⟨k,c,e,z.sameBut hs (Fv y c e)⟩
  ·obtain⟨w',z⟩:=I.cell y c e;exact⟨w',z.sameBut hs (Fv y c e)⟩
  ·obtain⟨e,n,ne,nf,d⟩:=I.pin p hp;exact⟨(hs.2 p.1 ne).trans e,n,ne,nf,d⟩
 ·have P4:X.fn x=true:=by
   rcases hf with z | z
   ·exact z
   ·rw[z]at hk;cases hk
  obtain⟨c,hc⟩:=I.ok.has x (.inl hk);obtain⟨w',z⟩:=I.cell x c hc;refine wpAny_storeName_cell I.ok.kind hk hc z (λh' pW hs=>?_);obtain⟨oc,SZ,P5⟩:=id z;refine h {s with heap:=h'} ⟨I.ok,I.os,I.bare,⟨λb o e n hb hx=>?_,λb o e n hb hx=>?_,I.base.free,λb o e hx=>?_,I.base.ft,I.base.mI,I.base.nX⟩,⟨m,hn.sameBut hs (ju (Fv x c hc)),λj y v' e1 e2 e3=>?_⟩,λy c' e=>?_,I.free,I.fy,λp hp=>?_,tracked ⟨oc,SZ,I.fy x c hc⟩ hs,by simpa using I.len⟩ ⟨c,hs,.inr hc⟩
  ·exact(hs.2 b (eM (eV (bO e) (I.ok.DF x c P4 hc)))).trans (I.base.keep b o e n hb hx)
  ·obtain⟨sl,e1⟩:=I.base.slot b o e n hb hx;exact⟨sl,(hs.2 b (eM (eV (bO e) (I.ok.DF x c P4 hc)))).trans e1⟩
  ·obtain⟨o',e1⟩:=I.base.there b o e hx;exact⟨o',(hs.2 b (eM (eV (bO e) (I.ok.DF x c P4 hc)))).trans e1⟩
  ·by_cases hj:j=i
   ·subst hj;rw[hi]at e1;cases e1;rw[tu LB]at e2;cases e2;exact⟨u,r,.inr ⟨.inl hk,c,hc,pW⟩⟩
   ·rw[nR (ju hj)]at e2;obtain⟨u',r',q⟩:=hl j y v' e1 e2 e3;refine⟨u',r',?_⟩;rcases q with q | ⟨k,c',e,z'⟩
    ·exact .inl q
    ·refine .inr ⟨k,c',e,z'.sameBut hs ?_⟩;rintro rfl;exact hj (nY hN e1 (I.ok.inj _ _ _ e hc▸hi))
  ·by_cases S0:c'=c
   ·subst S0;exact⟨_,pW⟩
   ·obtain⟨w2,z2⟩:=I.cell y c' e;exact⟨w2,z2.sameBut hs S0⟩
  ·obtain⟨e,n,ne,nf,d⟩:=I.pin p hp;refine⟨(hs.2 p.1 ?_).trans e,n,ne,nf,d⟩;intro q;rw[q,SZ]at e;have q':oc=p.2:=cx e;exact d w' (by rw[<- q'];exact P5)
theorem wG{M:Model}{A:Around}{E:Value->Shared->Prop}{i:Nat}{x:Str}{v:V}{u:Value}{Q:Unit->Shared->Prop}(I:Inv X pins σ H s)(hN:X.N.Nodup)(hi:X.N[i]?=some x)(hx:Loc X.env.scope x)(r:RelV v u)(h:∀s',Inv X pins (σ.set i (some v)) H s'->Q () s')(hf:X.fn x=true\/X.env.scope.names.lookup x=some .local:=by first | exact .inl rfl | exact .inr rfl | assumption):wpAny M A (storeName X.env x u) Q E s :=
 t4 I hN hi hx r (λs' I' _=>h s' I') hf
theorem Inv.LC{s':Shared}{ch:List Addr}(I:Inv X pins σ H s)(ho:s'.os=s.os)(u:Un (wD X.stack) ch H H' s.heap s'.heap)(bc:gm X.prog X.w H' s'.heap)(hg:AllBare s'.gens)(zC:∀b∈ch,(b∈X.ex\/X.dg.heap.objs.size<=b)/\b≠X.env.locals/\(∀x c,X.env.cells.lookup x=some c->c≠b)/\∀p∈X.pn++pins,p.1≠b):Inv X pins σ H' s':=by
 obtain⟨h',g',d',t',o'⟩:=s';have e:o'=s.os:=ho;subst e;exact I.call (g':=g') (t':=t') (d':=d') u bc hg zC
end
abbrev XK:=Value->Option Addr->Hp->Prop
abbrev St:=List (Option V)
abbrev VK:=V->Hp->Prop
abbrev TE:=St->Hp->VK->Prop
abbrev TT:=St->Hp->(Bool->Hp->Prop)->Prop
abbrev TA:=St->Hp->(List V->Hp->Prop)->Prop
structure jZ where
 nx:St->Hp->Prop
 rt:VK
 bk:St->Hp->Prop:=λ_ _=>False
 ct:St->Hp->Prop:=λ_ _=>False
abbrev TS:=jZ->St->Hp->Prop
def EP(X:Cx)(pins:List (Addr×Obj))(σ:St)(Q:VK)(u:Value)(s':Shared):Prop:=∃v H',Inv X pins σ H' s'/\RelV v u/\Q v H'
noncomputable def TP(X:Cx)(pins:List (Addr×Obj))(σ:St)(Q:Bool->Hp->Prop)(b:Bool)(s':Shared):Prop:=∃H',Inv X pins σ H' s'/\Q b H'
noncomputable def AP(X:Cx)(pins:List (Addr×Obj))(σ:St)(Q:List V->Hp->Prop)(us:List Value)(s':Shared):Prop:=∃vs H',Inv X pins σ H' s'/\aE vs us/\Q vs H'
def SP(X:Cx)(pins:List (Addr×Obj))(D:jZ)(f:Flow)(s':Shared):Prop :=
 match f with
 | .next=>∃cg H',Inv X pins cg H' s'/\D.nx cg H'
 | .brk=>∃cg H',Inv X pins cg H' s'/\D.bk cg H'
 | .cont=>∃cg H',Inv X pins cg H' s'/\D.ct cg H'
 | .ret u=>∃v cg H',Inv X pins cg H' s'/\RelV v u/\D.rt v H'
def PE(X:Cx)(e:Expr)(t:TE):Prop :=
 ∀(pins:List (Addr×Obj))(s:Shared)(σ:St)(H:Hp)(Q:VK),Inv X pins σ H s->t σ H Q->wpAny (model X.prog X.w) X.A (eval e X.env) (EP X pins σ Q) X.xe s
def PT(X:Cx)(e:Expr)(t:TT):Prop :=
 ∀(pins:List (Addr×Obj))(s:Shared)(σ:St)(H:Hp)(Q:Bool->Hp->Prop),Inv X pins σ H s->t σ H Q->wpAny (model X.prog X.w) X.A (isTrue e X.env (eval e X.env)) (TP X pins σ Q) X.xe s
def PW(X:Cx)(e:Expr)(t:TT):Prop :=
 ∀(j1:Sem Value)(pins:List (Addr×Obj))(s:Shared)(σ:St)(H:Hp)(Q:Bool->Hp->Prop),Inv X pins σ H s->t σ H Q->wpAny (model X.prog X.w) X.A (isTrue e X.env j1) (TP X pins σ Q) X.xe s
theorem PW.pt{X:Cx}{e:Expr}{t:TT}(h:PW X e t):PT X e t:=h _
def PA(X:Cx)(es:List Expr)(t:TA):Prop :=
 ∀(pos:Pos)(pins:List (Addr×Obj))(s:Shared)(σ:St)(H:Hp)(Q:List V->Hp->Prop),Inv X pins σ H s->t σ H Q->wpAny (model X.prog X.w) X.A (spliced (backTo pos (starEach es X.env))) (AP X pins σ Q) X.xe s
def PS(X:Cx)(st:Stmt)(t:TS):Prop :=
 ∀(pins:List (Addr×Obj))(s:Shared)(σ:St)(H:Hp)(D:jZ),Inv X pins σ H s->t D σ H->wpAny (model X.prog X.w) X.A (exec st X.env) (SP X pins D) X.xe s
def t5(X:Cx)(st:List Stmt)(t:TS):Prop :=
 ∀(pins:List (Addr×Obj))(s:Shared)(σ:St)(H:Hp)(D:jZ),Inv X pins σ H s->t D σ H->wpAny (model X.prog X.w) X.A (execs st X.env) (SP X pins D) X.xe s
theorem bP{α:Type}{t:Sem α}{Q Q':α->Shared->Prop}{M:Model}{A:Around}{E:Value->Shared->Prop}{s:Shared}(h:wpAny M A t Q E s)(hQ:∀a s,Q a s->Q' a s):wpAny M A t Q' E s:=iJ h hQ λ_ _ x=>x
section
variable {X:Cx}
noncomputable def P6(i:Nat):TE:=λσ H Q=>∃v,σ[i]?=some (some v)/\Q v H
def tC(v:V):TE:=λ_ H Q=>Q v H
theorem Fw{i:Nat}{x:Str}{pos:Pos}(hN:X.N[i]?=some x)(hv:OO X.env.scope x) (hd:(x==("__debug__" : Str))=false:=by decide) (zD:(x==("__classdict__" : Str))=false:=by decide):PE X (.Name x pos) (P6 i):=by
 intro pins s σ H Q I h;obtain⟨v,e,h⟩:=h;obtain⟨m,hn,hl⟩:=I.loc;obtain⟨u,r,l⟩:=hl i x v hN e hv;have fin:EP X pins σ Q u s:=⟨v,H,I,r,h⟩;rcases l with⟨hk,hm⟩|⟨hk,c,hc,j2⟩
 ·exact tR (wpAny_loadName_local I.ok.kind hk hn hm fin) hd
 ·rcases hk with hk | hk
  ·exact tR (wpAny_loadName_cell I.ok.kind hk hc j2 fin) hd
  ·exact tR (wpAny_loadName_free I.ok.kind hk hc j2 fin zD) hd
theorem wH {i j pos}:PE X (.Constant (.int i) j pos) (tC (.int i)):=λ_ _ _ H _ I h=>wpAny_Constant_int ⟨.int i,H,I.tok _,⟨_,rfl⟩,h⟩
theorem LD {b j pos}:PE X (.Constant (.bool b) j pos) (tC (.bl b)):=λ_ _ _ H _ I h=>Constant_bool ⟨.bl b,H,I,rfl,h⟩
theorem Fx {j pos}:PE X (.Constant .none j pos) (tC .br):=λ_ _ _ H _ I h=>Constant_none ⟨.br,H,I,rfl,h⟩
theorem wI {x j pos}:PE X (.Constant (.str x) j pos) (tC (.str x)):=λ_ _ _ H _ I h=>Calls.Constant_str ⟨.str x,H,I.tok _,⟨_,rfl⟩,h⟩
noncomputable def Gl(X:Cx)(x:Str):Prop:=X.env.kindOf x=some .globalImplicit
theorem mL{E:Value->Shared->Prop}{pins:List (Addr×Obj)}{s:Shared}{σ:St}{H:Hp}{x:Str}{u:Value}{pos:Pos}{Q:Value->Shared->Prop}(I:Inv X pins σ H s)(hg:Gl X x)(hm:X.mg x=some u)(h:Q u s) (hd:(x==("__debug__" : Str))=false:=by decide):wpAny (model X.prog X.w) X.A (eval (.Name x pos) X.env) Q E s :=
 Calls.Name_function_global I.ok.kind hg (Calls.loadGlobal_global (by rw[I.ok.glob];exact I.mod.glob.keeps I.bk) hm h) hd
theorem iK{E:Value->Shared->Prop}{pins:List (Addr×Obj)}{s:Shared}{σ:St}{H:Hp}{x:Str}{u:Value}{pos:Pos}{Q:Value->Shared->Prop}(I:Inv X pins σ H s)(hg:Gl X x)(hm:X.mg x=none)(hv:bootBuiltins x=some u)(h:Q u s) (hn:x≠ "__name__" := by decide) (hd:(x==("__debug__" : Str))=false:=by decide):wpAny (model X.prog X.w) X.A (eval (.Name x pos) X.env) Q E s:=by
 obtain⟨mb,h1,h2⟩:=I.mod.blt;exact Calls.Name_function_global I.ok.kind hg (Calls.loadGlobal_builtin (by rw[I.ok.glob];exact I.mod.glob.keeps I.bk) hm (by rw[I.ok.blt];exact h1.keeps I.bk) ((h2 x hn).trans hv) h) hd
theorem jH{x:Str}{v:V}{u:Value}{pos:Pos}(hg:Gl X x)(hm:X.mg x=some u)(r:RelV v u) (hd:(x==("__debug__" : Str))=false:=by decide):PE X (.Name x pos) (tC v) :=
 λ_ _ _ H _ I h=>mL I hg hm ⟨v,H,I,r,h⟩ hd
theorem Ae{x:Str}{v:V}{u:Value}{pos:Pos}(hg:Gl X x)(hm:X.mg x=none)(hv:bootBuiltins x=some u)(r:RelV v u) (hn:x≠ "__name__" := by decide) (hd:(x==("__debug__" : Str))=false:=by decide):PE X (.Name x pos) (tC v) :=
 λ_ _ _ H _ I h=>iK I hg hm hv ⟨v,H,I,r,h⟩ hn hd
variable {a b:Expr} {ta tb:TE} {pos:Pos}
variable {tA OR:TT} {dS:List Expr}
noncomputable def P7(t u:TT):TT:=λσ H Q=>t σ H λc H1=>if c=true then u σ H1 Q else Q false H1
noncomputable def UE(t u:TT):TT:=λσ H Q=>t σ H λc H1=>if c=true then Q true H1 else u σ H1 Q
def P8(t:TT):TT:=λσ H Q=>t σ H λc H1=>Q (!c) H1
theorem Af(ha:PT X a tA):PW X (.BoolOp .And [a] pos) tA:=by
 intro wh pins s σ H Q I h;refine isTrue_and (bP (ha pins s σ H Q I h) λc s1 e=>?_)
 cases c with
 | true=>exact isTrue_and_nil e
 | false=>exact e
theorem Fy(ha:PT X a tA):PW X (.BoolOp .Or [a] pos) tA:=by
 intro wh pins s σ H Q I h;refine isTrue_or (bP (ha pins s σ H Q I h) λc s1 e=>?_)
 cases c with
 | false=>exact isTrue_or_nil e
 | true=>exact e
theorem Fz(ha:PT X a tA)(hb:PW X (.BoolOp .And (b::dS) pos) OR):PW X (.BoolOp .And (a::b::dS) pos) (P7 tA OR):=by
 intro wh pins s σ H Q I h;refine isTrue_and (bP (ha pins s σ H _ I h) ?_);rintro c s1 ⟨H1,I1,q1⟩
 cases c with
 | true=>exact hb wh pins s1 σ H1 Q I1 q1
 | false=>exact⟨H1,I1,q1⟩
theorem LF(ha:PT X a tA)(hb:PW X (.BoolOp .Or (b::dS) pos) OR):PW X (.BoolOp .Or (a::b::dS) pos) (UE tA OR):=by
 intro wh pins s σ H Q I h;refine isTrue_or (bP (ha pins s σ H _ I h) ?_);rintro c s1 ⟨H1,I1,q1⟩
 cases c with
 | true=>exact⟨H1,I1,q1⟩
 | false=>exact hb wh pins s1 σ H1 Q I1 q1
theorem FA(ha:PT X a tA):PT X (.UnaryOp .Not a pos) (P8 tA):=by
 intro pins s σ H Q I h;exact isTrue_not (ha pins s σ H (λc H1=>Q (!c) H1) I h)
noncomputable def LG(ta tb:TE):TE:=λσ H Q=>ta σ H λx H1=>∃c,x=.bl c/\if c=true then tb σ H1 Q else Q (.bl false) H1
noncomputable def P9(ta tb:TE):TE:=λσ H Q=>ta σ H λx H1=>∃c,x=.bl c/\if c=true then Q (.bl true) H1 else tb σ H1 Q
noncomputable def LH(ta:TE):TE:=λσ H Q=>ta σ H λx H1=>∃c,x=.bl c/\Q (.bl (!c)) H1
theorem wJ {op} {t:TE} (h:PE X a t):PE X (.BoolOp op [a] pos) t:=λpins s σ H Q I hw=>BoolOp_one (h pins s σ H Q I hw)
theorem FC(ha:PE X a ta)(hb:PE X (.BoolOp .And (b::dS) pos) tb):PE X (.BoolOp .And (a::b::dS) pos) (LG ta tb):=by
 intro pins s σ H Q I h;refine BoolOp_and (bP (ha pins s σ H _ I h) ?_);rintro v s1 ⟨x,H1,I1,r1,q1⟩;obtain⟨c,rfl,q1⟩:=q1;cases r1;refine nT ?_
 cases c with
 | true=>exact hb pins s1 σ H1 Q I1 q1
 | false=>exact⟨.bl false,H1,I1,rfl,q1⟩
theorem LI(ha:PE X a ta)(hb:PE X (.BoolOp .Or (b::dS) pos) tb):PE X (.BoolOp .Or (a::b::dS) pos) (P9 ta tb):=by
 intro pins s σ H Q I h;refine BoolOp_or (bP (ha pins s σ H _ I h) ?_);rintro v s1 ⟨x,H1,I1,r1,q1⟩;obtain⟨c,rfl,q1⟩:=q1;cases r1;refine nT ?_
 cases c with
 | false=>exact hb pins s1 σ H1 Q I1 q1
 | true=>exact⟨.bl true,H1,I1,rfl,q1⟩
theorem FD(ha:PE X a ta):PE X (.UnaryOp .Not a pos) (LH ta):=by
 intro pins s σ H Q I h;refine UnaryOp_ (bP (ha pins s σ H _ I h) ?_);rintro v s1 ⟨x,H1,I1,r1,q1⟩;obtain⟨c,rfl,q1⟩:=q1;cases r1;exact not_of (nT ⟨.bl (!c),H1,I1,rfl,q1⟩)
noncomputable def UG(t:TT)(ta tb:TE):TE:=λσ H Q=>t σ H λc H1=>if c=true then ta σ H1 Q else tb σ H1 Q
theorem wK{c:Expr}(hc:PT X c tA)(ha:PE X a ta)(hb:PE X b tb):PE X (.IfExp c a b pos) (UG tA ta tb):=by
 intro pins s σ H Q I h;refine wpAny_IfExp (bP (hc pins s σ H _ I h) ?_);rintro d s1 ⟨H1,I1,q1⟩
 cases d with
 | true=>exact ha pins s1 σ H1 Q I1 q1
 | false=>exact hb pins s1 σ H1 Q I1 q1
end
def d5(K:PySem.W.Frag)(H:Hp)(a:Addr)(xs:List V):Prop :=
 Rd H a (.lst xs) \/
  ∃(o:Obj) (ax:Array Value) (n:Nat),K.lookup a=some o/\o.cls=.type "list" /\ o.dict=none/\o.data=.seq ax n/\ax.size<=sizeLine/\aE xs ax.toList
def eJ(K:PySem.W.Frag)(H:Hp)(a:Addr)(xs:List V):Prop :=
 Rd H a (.tup xs) \/
  ∃(o:Obj) (ax:Array Value) (n:Nat),K.lookup a=some o/\o.cls=.type "tuple" /\ o.data=.seq ax n/\ax.size<=sizeLine/\aE xs ax.toList
noncomputable def P_:Value->Option V
 | .none=>some .br
 | .bool b=>some (.bl b)
 | .int i _=>some (.int i)
 | .str x _=>some (.str x)
 | .bytes b _=>some (.Lp b)
 | .float b _=>some (.Fp b)
 | .ref a=>some (.ref a)
 | .type n=>some (.ty n)
 | _=>none
theorem RelV.abs{x:V}{u:Value}(r:RelV x u):P_ u=some x:=by
 cases x with
 | br=>cases r;rfl
 | bl _=>cases r;rfl
 | int _=>obtain⟨t,rfl⟩:=r;rfl
 | str _=>obtain⟨t,rfl⟩:=r;rfl
 | Lp _=>obtain⟨t,rfl⟩:=r;rfl
 | Fp _=>obtain⟨t,rfl⟩:=r;rfl
 | ref _=>cases r;rfl
 | ty _=>cases r;rfl
theorem RelV.inj{x y:V}{u:Value}(r:RelV x u)(q:RelV y u):x=y:=cx (r.abs.symm.trans q.abs)
theorem aE.inj{xs ys:List V}{us:List Value}(p:aE xs us)(q:aE ys us):xs=ys:=by
 induction p generalizing ys with
 | nil=>cases q;rfl
 | cons r t ih=>cases q with
  | cons r' t'=>rw[r.inj r',ih t']
section
variable {X:Cx} {pins:List (Addr×Obj)} {σ:St} {H:Hp} {s:Shared} {a:Addr} {xs ys:List V}
theorem d5.of{K:PySem.W.Frag}(h:H a=some (.lst xs)):d5 K H a xs:=.inl (.inl h)
theorem eJ.of{K:PySem.W.Frag}(h:H a=some (.tup xs)):eJ K H a xs:=.inl (.inl h)
theorem Inv.list(I:Inv X pins σ H s)(h:d5 X.K H a xs):∃ax:List Value,aE xs ax/\PlainL s.heap a ax.toArray/\xs.length<=sizeLine:=by
 rcases h with h | ⟨o,ax,n,hk,hc,hd,hs,hz,r⟩
 ·obtain⟨z,ax,n,r,e⟩:=h.ok I.bc;exact⟨ax,r,⟨_,n,e,rfl,rfl,rfl⟩,z⟩
 ·refine⟨ax.toList,r,⟨o,n,I.g7 a o hk,hc,hd,by simpa using hs⟩,?_⟩;have e:=r.length;simp only[tB]at e;omega
theorem Inv.tuple(I:Inv X pins σ H s)(h:eJ X.K H a xs):∃ax:List Value,aE xs ax/\IsTup s.heap a ax.toArray/\xs.length<=sizeLine:=by
 rcases h with h | ⟨o,ax,n,hk,hc,hs,hz,r⟩
 ·obtain⟨z,ax,r,p⟩:=h.ok I.bc;exact⟨ax,r,p,z⟩
 ·refine⟨ax.toList,r,⟨o,I.g7 a o hk,hc,n,by simpa using hs⟩,?_⟩;have e:=r.length;simp only[tB]at e;omega
theorem Inv.n_(I:Inv X pins σ H s)(h:d5 X.K H a xs)(h':d5 X.K H a ys):xs=ys:=by
 obtain⟨ax,r,⟨o,n,e,_,_,d⟩,_⟩:=I.list h;obtain⟨its',r',⟨o',n',e',_,_,d'⟩,_⟩:=I.list h';rw[e]at e';cases e';rw[d]at d';injection d' with d1 _;have:ax=its':=by simpa using jt Array.toList d1
 subst this;exact r.inj r'
theorem Inv.lV(I:Inv X pins σ H s)(h:eJ X.K H a xs)(h':eJ X.K H a ys):xs=ys:=by
 obtain⟨ax,r,⟨o,e,_,n,d⟩,_⟩:=I.tuple h;obtain⟨its',r',⟨o',e',_,n',d'⟩,_⟩:=I.tuple h';rw[e]at e';cases e';rw[d]at d';injection d' with d1 _;have:ax=its':=by simpa using jt Array.toList d1
 subst this;exact r.inj r'
end
abbrev Cx.lH(X:Cx)(E:Value->Shared->Prop):Cx:={X with xe:=E}
abbrev Cx.DH(X:Cx):Cx:=X.lH λ_ _=>False
theorem Cx.Ok.lH{X:Cx}(ok:X.Ok)(E:Value->Shared->Prop):(X.lH E).Ok :=
 ⟨ok.mod,ok.kind,ok.glob,ok.blt,ok.above,ok.inj,ok.has,ok.DF,ok.hd,ok.frames,ok.Jb,ok.OP,ok.bs,ok.Ad,ok.tY,ok.tZ,ok.jw,ok.Ft⟩
theorem Cx.Ok.fA{X:Cx}{E:Value->Shared->Prop}(ok:(X.lH E).Ok):X.Ok :=
 ⟨ok.mod,ok.kind,ok.glob,ok.blt,ok.above,ok.inj,ok.has,ok.DF,ok.hd,ok.frames,ok.Jb,ok.OP,ok.bs,ok.Ad,ok.tY,ok.tZ,ok.jw,ok.Ft⟩
section
variable {X:Cx} {pins:List (Addr×Obj)} {σ:St} {H:Hp} {s:Shared} {E:Value->Shared->Prop}
theorem Inv.lH(I:Inv X pins σ H s)(E:Value->Shared->Prop):Inv (X.lH E) pins σ H s:=⟨I.ok.lH E,I.os,I.bare,I.base,I.loc,I.cell,I.free,I.fy,I.pin,I.bc,I.len⟩
theorem Inv.fA(I:Inv (X.lH E) pins σ H s):Inv X pins σ H s:=⟨I.ok.fA,I.os,I.bare,I.base,I.loc,I.cell,I.free,I.fy,I.pin,I.bc,I.len⟩
theorem SP.fA{D:jZ}{f:Flow}{s':Shared}(h:SP (X.lH E) pins D f s'):SP X pins D f s':=by
 cases f with
 | next=>obtain⟨cg,H',I,q⟩:=h;exact⟨cg,H',I.fA,q⟩
 | brk=>obtain⟨cg,H',I,q⟩:=h;exact⟨cg,H',I.fA,q⟩
 | cont=>obtain⟨cg,H',I,q⟩:=h;exact⟨cg,H',I.fA,q⟩
 | ret u=>obtain⟨v,cg,H',I,r,q⟩:=h;exact⟨v,cg,H',I.fA,r,q⟩
end
section
variable {X:Cx} {st:Stmt} {dS:List Stmt} {t u:TS} {e:Expr} {te:TE} {pos:Pos}
def LJ:TS:=λD σ H=>D.nx σ H
def LK(t u:TS):TS:=λD σ H=>t {D with nx:=u D} σ H
theorem Ag:t5 X [] LJ:=λ_ _ σ H _ I h=>z3 ⟨σ,H,I,h⟩
theorem wL(h1:PS X st t)(h2:t5 X dS u):t5 X (st::dS) (LK t u):=by
 intro pins s σ H D I h;refine wpAny_execs_cons (bP (h1 pins s σ H {D with nx:=u D} I h) λf s1 q=>?_)
 cases f with
 | next =>
  obtain⟨cg,H',I',q⟩:=q;exact h2 pins s1 cg H' D I' q
 | ret v=>exact q
 | brk=>exact q
 | cont=>exact q
theorem Inv.quiet{pins:List (Addr×Obj)}{σ:St}{H:Hp}{s:Shared}(I:Inv X pins σ H s):interactive X.env=false:=by simp[interactive,I.ok.kind]
noncomputable def LL(te:TE):TS:=λD σ H=>te σ H λ_ H1=>D.nx σ H1
theorem q_(he:PE X e te)(hs:swapsWith e none pos.line X.env=pure false:=by rfl):PS X (.Expr e pos) (LL te):=by
 intro pins s σ H D I h;exact wpAny_Expr_any (bP (he pins s σ H _ I h) λv s1 ⟨x,H1,I1,r1,q1⟩=>⟨σ,H1,I1,q1⟩) I.quiet hs
def Qa(te:TE):TS:=λD σ H=>te σ H D.rt
theorem wM(he:PE X e te):PS X (.Return (some e) pos) (Qa te):=by
 intro pins s σ H D I h;exact wpAny_Return_some (bP (he pins s σ H _ I h) λv s1 ⟨x,H1,I1,r1,q1⟩=>⟨x,σ,H1,I1,r1,q1⟩)
noncomputable def Qb(c:TT)(t u:TS):TS:=λD σ H=>c σ H λb H1=>if b=true then t D σ H1 else u D σ H1
theorem LM{c:Expr}{a b:List Stmt}{tc:TT}(hc:PT X c tc)(ha:t5 X a t)(hb:t5 X b u):PS X (.If c a b pos) (Qb tc t u):=by
 intro pins s σ H D I h;refine wpAny_If (bP (hc pins s σ H _ I h) ?_);rintro d s1 ⟨H1,I1,q1⟩
 cases d with
 | true=>exact ha pins s1 σ H1 D I1 q1
 | false=>exact hb pins s1 σ H1 D I1 q1
def FE:TS:=λ_ _ _=>False
theorem wN:PS X st FE:=λ_ _ _ _ _ _ h=>h.elim
end
abbrev TG:=V->St->Hp->(St->Hp->Prop)->Prop
abbrev DI:=List V->St->Hp->(St->Hp->Prop)->Prop
def PG(X:Cx)(iM:Expr)(t:TG):Prop :=
 ∀(pins:List (Addr×Obj))(s:Shared)(σ:St)(H:Hp)(v:V)(u:Value)(Q:St->Hp->Prop),Inv X pins σ H s->RelV v u->t v σ H Q ->
  wpAny (model X.prog X.w) X.A (assign iM X.env u) (λ_ s'=>∃cg H',Inv X pins cg H' s'/\Q cg H') X.xe s
noncomputable def Jc(X:Cx)(ts:List Expr)(t:DI):Prop :=
 ∀(pins:List (Addr×Obj))(s:Shared)(σ:St)(H:Hp)(vs:List V)(us:List Value)(Q:St->Hp->Prop),Inv X pins σ H s->aE vs us->t vs σ H Q ->
  wpAny (model X.prog X.w) X.A (assignInOrder ((assignEach ts X.env).map (·.2)) us) (λ_ s'=>∃cg H',Inv X pins cg H' s'/\Q cg H') X.xe s
abbrev Ah:=V->V->V->Hp->(Hp->Prop)->Prop
def FF(X:Cx)(t:Ah):Prop :=
 ∀(pins:List (Addr×Obj))(s:Shared)(σ:St)(H:Hp)(o i v:V)(ov iv u:Value)(Q:Hp->Prop),Inv X pins σ H s->RelV o ov->RelV i iv->RelV v u->t o i v H Q ->
  wpAny (model X.prog X.w) X.A (setItem ov iv u) (λ_ s'=>∃H',Inv X pins σ H' s'/\Q H') X.xe s
section
variable {X:Cx} {pos:Pos}
def DJ(i:Nat):TG:=λv σ H Q=>Q (σ.set i (some v)) H
theorem mM{i:Nat}{x:Str}(hN:X.N.Nodup)(hi:X.N[i]?=some x)(hx:Loc X.env.scope x)(hf:X.fn x=true\/X.env.scope.names.lookup x=some .local:=by first | exact .inl rfl | exact .inr rfl | assumption):PG X (.Name x pos) (DJ i):=by
 intro pins s σ H v u Q I r h;exact wpAny_assign_Name (wG I hN hi hx r (λs' I'=>⟨_,H,I',h⟩) hf)
def LN:DI:=λvs σ H Q=>vs=[]/\Q σ H
noncomputable def DK(t:TG)(u:DI):DI:=λvs σ H Q=>∃v r,vs=v::r/\t v σ H λcg H'=>u r cg H' Q
theorem Ai:Jc X [] LN:=by
 intro pins s σ H vs us Q I r h;obtain⟨e,h⟩:=h;subst e;cases r;exact assignInOrder_nil ⟨σ,H,I,h⟩
theorem wQ{e:Expr}{es:List Expr}{t:TG}{u:DI}(h1:PG X e t)(h2:Jc X es u)(hs:(assignEach (e::es) X.env).map (·.2)=assign e X.env::(assignEach es X.env).map (·.2):=by rfl):Jc X (e::es) (DK t u):=by
 intro pins s σ H vs us Q I r h;obtain⟨v,vr,e1,h⟩:=h;subst e1
 cases r with
 | cons r rr =>
  rw[hs];refine assignInOrder_cons (bP (h1 pins s σ H _ _ _ I r h) ?_);rintro _ s1 ⟨S1,H1,I1,q1⟩;exact h2 pins s1 S1 H1 _ _ Q I1 rr q1
def Qc(K:PySem.W.Frag)(n:Nat)(t:DI):TG:=λv σ H Q=>∃a xs,v=.ref a/\eJ K H a xs/\xs.length=n/\t xs σ H Q
theorem FH{es:List Expr}{k:Nat}{t:DI}{n:Nat}(hc:X.calm=true)(h:Jc X es t)(hn:(assignEach es X.env).length=n:=by rfl)(lW:(assignEach es X.env).findIdx? (·.1)=none:=by rfl):PG X (.Tuple es k pos) (Qc X.K n t):=by
 intro pins s σ H v u Q I r hw;obtain⟨a,xs,e1,hq,hl,hw⟩:=hw;subst e1;cases r;obtain⟨ax,rv,ht,hz⟩:=I.tuple hq;refine assign_Tuple_tuple (I.ok.hd hc) ht (by simp[hn,<- hl,rv.length]) lW λh' hx=>?_;have I1:Inv X pins σ H {s with heap:=h'}:=I.kept (t':=s.toks) λb o e=>hx b o (eM (bO e)) e;exact h pins _ σ H xs _ Q I1 (by simpa using rv) hw
noncomputable def Qd(to ti:TE)(t:Ah):TG:=λv σ H Q=>to σ H λo H1=>ti σ H1 λi H2=>t o i v H2 λH3=>Q σ H3
theorem FI {o i : Expr} {to ti : TE} {t : Ah} (ho : PE X o to) (hi : PE X i ti) (hs : FF X t)
    (ha:∀v,assign (.Subscript o i pos) X.env v=(do
      let ov <- holding [v] (eval o X.env)
      let iv <- holding [v,ov] (eval i X.env)
      standAt pos
      holding [v,ov,iv] (setItem ov iv v)
      release [v,ov,iv] []):=by intro _;rfl):PG X (.Subscript o i pos) (Qd to ti t):=by
  intro pins s σ H v u Q I r h;rw[ha];refine ah (mF (bP (ho pins s σ H _ I h) ?_));rintro ov s1 ⟨x,H1,I1,r1,q1⟩;refine ah (mF (bP (hi pins s1 σ H1 _ I1 q1) ?_));rintro iv s2 ⟨y,H2,I2,r2,q2⟩;refine ah (wpAny_standAt (ah (mF (bP (hs pins s2 σ H2 x y v ov iv u _ I2 r1 r2 r q2) ?_))));rintro _ s3 ⟨H3,I3,q3⟩;exact wpAny_release ⟨σ,H3,I3,q3⟩
noncomputable def LO(te:TE)(g:TG):TS:=λD σ H=>te σ H λx H1=>g x σ H1 D.nx
theorem pX{tg e:Expr}{te:TE}{g:TG}(he:PE X e te)(hg:PG X tg g)(hs:swapsWithSole [tg] e pos.line X.env=pure false:=by rfl)(hw:swappedStores [tg] e X.env=pure none:=by rfl)(h1:(assignEach [tg] X.env).map (·.2)=[assign tg X.env]:=by rfl):PS X (.Assign [tg] e pos) (LO te g):=by
 intro pins s σ H D I h;refine wpAny_Assign_stores (bP (he pins s σ H _ I h) ?_) hs hw;rintro v s1 ⟨x,H1,I1,r1,q1⟩;rw[h1];exact bP (hg pins s1 σ H1 x v _ I1 r1 q1) λ_ s2 q=>q
end
structure It where
 go:Nat->Hp->Prop
 LP:Nat->Hp->V->Hp->Prop
 stop:Nat->Hp->Prop
noncomputable def jx(X:Cx)(pins:List (Addr×Obj))(H:Hp)(b:Addr):Prop :=
 H b=none/\b≠X.env.locals/\b∉X.fs/\(b∈X.ex\/X.dg.heap.objs.size<=b)/\(∀x c,X.env.cells.lookup x=some c->c≠b)/\∀p∈X.pn++pins,p.1≠b
theorem Inv.wR{X:Cx}{pins:List (Addr×Obj)}{σ:St}{H H':Hp}{s:Shared}{b:Addr}(I:Inv X pins σ H s)(hb:s.heap.objs.size<=b)(hn:H' b=none):jx X pins H' b:=by
 refine⟨hn,Nat.ne_of_gt (eV I.lt hb),I.Lx hb,.inr (d7 I.sz hb),λx c e z=>?_,λp hp z=>?_⟩
 ·obtain⟨v,q⟩:=I.cell x c e;exact absurd (eV q.lt (by rw[z];exact hb)) (jW _)
 ·exact absurd (eV (bO (I.pin p hp).1) (by rw[z];exact hb)) (jW _)
structure pY (P:Program) (w:World) (K:PySem.W.Frag) (tg:Expr) (J:It) (fp:List Addr) (it:Addr) (tn:Nat->Heap->Prop):Prop where
 mem:it∈fp
 obj:∀i h,tn i h->∀b∈fp,∃o,h.get? b=some o/\∀v,o.data≠.cell v
 keep:∀i h h',tn i h->(∀b∈fp,∀o,h.get? b=some o->h'.get? b=some o)->tn i h'
 item:∀(X:Cx),X.prog=P->X.w=w->X.K=K->X.calm=true->∀(i:Nat)(pins:List (Addr×Obj))(s:Shared)(σ:St)(H:Hp)(E:Value->Shared->Prop),Inv X pins σ H s->(∀b∈fp,jx X pins H b)->tn i s.heap->J.go i H ->
  wpAny (model P w) X.A (pyNext (.ref it)) (λr s1=>∃u,r=some u /\
   wpAny (model P w) X.A (letOwnedTupleGo tg (.ref it) u) (λ_ s2=>∃x H',Inv X pins σ H' s2/\RelV x u/\J.LP i H x H'/\tn (i+1) s2.heap/\∀b∈fp,H' b=none) E s1) E s
 done:∀(X:Cx),X.prog=P->X.w=w->X.K=K->X.calm=true->∀(i:Nat)(pins:List (Addr×Obj))(s:Shared)(σ:St)(H:Hp)(E:Value->Shared->Prop),Inv X pins σ H s->(∀b∈fp,jx X pins H b)->tn i s.heap->J.stop i H ->
  wpAny (model P w) X.A (pyNext (.ref it)) (λr s1=>r=none/\Inv X pins σ H s1) E s
 self:∀(A:Around)(i:Nat)(s:Shared)(Q:Value->Shared->Prop)(E:Value->Shared->Prop),tn i s.heap->Q (.ref it) s->wpAny (model P w) A (pyIter (.ref it)) Q E s
abbrev TI:=St->Hp->(It->Hp->Prop)->Prop
def S2(X:Cx)(pins:List (Addr×Obj))(σ:St)(tg:Expr)(R:It->Hp->Prop)(OS:Value)(s2:Shared):Prop :=
 ∃(it:Addr) (fp:List Addr) (tn:Nat->Heap->Prop) (J:It) (H':Hp),OS=.ref it/\Inv X pins σ H' s2/\pY X.prog X.w X.K tg J fp it tn/\tn 0 s2.heap/\(∀b∈fp,jx X pins H' b)/\R J H'
def PI(X:Cx)(tg aC:Expr)(wi:TI):Prop :=
 ∀(pins:List (Addr×Obj))(s:Shared)(σ:St)(H:Hp)(R:It->Hp->Prop),Inv X pins σ H s->wi σ H R ->
  wpAny (model X.prog X.w) X.A (eval aC X.env) (λv s1=>wpAny (model X.prog X.w) X.A (pyIter v) (S2 X pins σ tg R) X.xe s1) X.xe s
theorem rf{M:Model}{A:Around}{E:Value->Shared->Prop}{s:Shared}{tg:Expr}{it:Addr}{u:Value}{o:Obj}{n:String}{vs:Array Value}{Q:Unit->Shared->Prop}(ho:s.heap.get? it=some o)(hc:o.cls=.type n)(hd:o.data=.fields vs) (hn:["enumerate","zip","dict_itemiterator","dict_reverseitemiterator","odict_iterator","itertools.zip_longest","itertools.pairwise"].contains n=false) (hQ:Q () s):wpAny M A (letOwnedTupleGo tg (.ref it) u) Q E s:=by
  unfold letOwnedTupleGo
  cases tg<;>first
    | exact a7 hQ
    | (cases u <;> first
        | exact a7 hQ
        | (refine ah (wpAny_load ho ?_)
           rw[hc,hd];show wpAny M A (if (["enumerate","zip","dict_itemiterator","dict_reverseitemiterator","odict_iterator","itertools.zip_longest","itertools.pairwise"].contains n&&vs[0]? == some (rawInt _))=true then _ else _) Q E s;rw[aR (by intro h;rw[hn,Bool.false_and]at h;cases h)];exact a7 hQ))
noncomputable def Qe(K:PySem.W.Frag)(a:Addr):It :=
 ⟨λi H=>∃xs x,d5 K H a xs/\xs[i]?=some x,λi H x H'=>H'=H/\∀xs,d5 K H a xs->xs[i]?=some x,λi H=>∃xs,d5 K H a xs/\xs.length<=i⟩
noncomputable def Qf(K:PySem.W.Frag)(a:Addr):It :=
 ⟨λi H=>∃xs x,eJ K H a xs/\xs[i]?=some x,λi H x H'=>H'=H/\∀xs,eJ K H a xs->xs[i]?=some x,λi H=>∃xs,eJ K H a xs/\xs.length<=i⟩
noncomputable def LQ(lo:Int)(n:Nat):It:=⟨λi _=>i<n,λi H x H'=>H'=H/\x=.int (lo+i),λi _=>n<=i⟩
theorem t6{P:Program}{w:World}{K:PySem.W.Frag}{tg:Expr}(a it:Addr):pY P w K tg (Qe K a) [it] it (λi h=>h.IsListIter it a i) where
 mem:=by simp
 obj:=λi h st b hb=>by
  have e:b=it:=by simpa using hb
  subst e;obtain⟨o,e,c,d⟩:=st;exact⟨o,e,λv z=>by rw[d]at z;cases z⟩
 keep:=λi h h' st k=>st.at λo e=>k it (by simp) o e
 item:=by
  intro X hP hw hK hc i pins s σ H E I hf st hg;subst hP hw hK;obtain⟨xs,x,hq,hx⟩:=hg;obtain⟨ax,rv,p,hz⟩:=I.list hq;obtain⟨u,hu,ru⟩:=rv.get hx;obtain⟨f0,f1,f2,f3,f4,f5⟩:=hf it (by simp);refine wpAny_pyNext_list_item st p.isList (x:=u) (by simpa using hu) λh' lX sb=>?_;have I1:Inv X pins σ H {s with heap:=h'}:=I.turned (t':=s.toks) (λb o hb e=>(sb.2 b hb).trans e) f0 f1 f3 f4 f5;obtain⟨o,e,c,d⟩:=id lX;exact⟨u,rfl,rf (s:={s with heap:=h'}) e c d (by decide) ⟨x,H,I1,ru,⟨rfl,λys hy=>by rw[I.n_ hy hq];exact hx⟩,lX,λb hb=>(hf b hb).1⟩⟩
 done:=by
  intro X hP hw hK hc i pins s σ H E I hf st hg;subst hP hw hK;obtain⟨xs,hq,hx⟩:=hg;obtain⟨ax,rv,p,hz⟩:=I.list hq;obtain⟨f0,f1,f2,f3,f4,f5⟩:=hf it (by simp);have hl:=rv.length;exact wpAny_pyNext_list_end (I.ok.hd hc) st p.isList (by simp;omega) λh' eb=>⟨rfl,I.turned (t':=s.toks) (λb o hb e=>eb b o hb e) f0 f1 f3 f4 f5⟩
 self:=λ_ _ _ _ _ st h=>wpAny_pyIter_listiter st h
theorem pZ{P:Program}{w:World}{K:PySem.W.Frag}{tg:Expr}(a it:Addr):pY P w K tg (Qf K a) [it] it (λi h=>h.IsTupleIter it a i) where
 mem:=by simp
 obj:=λi h st b hb=>by
  have e:b=it:=by simpa using hb
  subst e;obtain⟨o,e,c,d⟩:=st;exact⟨o,e,λv z=>by rw[d]at z;cases z⟩
 keep:=λi h h' st k=>st.at λo e=>k it (by simp) o e
 item:=by
  intro X hP hw hK hc i pins s σ H E I hf st hg;subst hP hw hK;obtain⟨xs,x,hq,hx⟩:=hg;obtain⟨ax,rv,p,hz⟩:=I.tuple hq;obtain⟨u,hu,ru⟩:=rv.get hx;obtain⟨f0,f1,f2,f3,f4,f5⟩:=hf it (by simp);refine wpAny_pyNext_tuple_item st (show s.heap.IsTuple a ax.toArray from p) (x:=u) (by simpa using hu) λh' lX sb=>?_;have I1:Inv X pins σ H {s with heap:=h'}:=I.turned (t':=s.toks) (λb o hb e=>(sb.2 b hb).trans e) f0 f1 f3 f4 f5;obtain⟨o,e,c,d⟩:=id lX;exact⟨u,rfl,rf (s:={s with heap:=h'}) e c d (by decide) ⟨x,H,I1,ru,⟨rfl,λys hy=>by rw[I.lV hy hq];exact hx⟩,lX,λb hb=>(hf b hb).1⟩⟩
 done:=by
  intro X hP hw hK hc i pins s σ H E I hf st hg;subst hP hw hK;obtain⟨xs,hq,hx⟩:=hg;obtain⟨ax,rv,p,hz⟩:=I.tuple hq;obtain⟨f0,f1,f2,f3,f4,f5⟩:=hf it (by simp);have hl:=rv.length;exact wpAny_pyNext_tuple_end (I.ok.hd hc) st (show s.heap.IsTuple a ax.toArray from p) (by simp;omega) λh' eb=>⟨rfl,I.turned (t':=s.toks) (λb o hb e=>eb b o hb e) f0 f1 f3 f4 f5⟩
 self:=λ_ _ _ _ _ st h=>wpAny_pyIter_tupleiter st h
theorem p0{P:Program}{w:World}{K:PySem.W.Frag}{tg:Expr}(it:Addr)(lo:Int)(n:Nat):pY P w K tg (LQ lo n) [it] it (λi h=>IsRangeIter h it (lo+(i:Nat)*1) ((n:Int)-(i:Nat)) 1) where
 mem:=by simp
 obj:=λi h st b hb=>by
  have e:b=it:=by simpa using hb
  subst e
  exact⟨_,st,λv z=>by
   have z':Data.fields _=Data.cell v:=z;cases z'⟩
 keep:=λi h h' st k=>k it (by simp) _ st
 item:=by
  intro X hP hw hK hc i pins s σ H E I hf st hg;subst hP hw hK;obtain⟨f0,f1,f2,f3,f4,f5⟩:=hf it (by simp);have W:=Walks.range (prog:=X.prog) (w:=X.w) (I.ok.hd hc) it lo 1 n;refine W.item i s _ _ hg st λv h' tk hv lX kk=>?_;obtain⟨t,rfl⟩:=hv;have I1:Inv X pins σ H {s with heap:=h',toks:=tk}:=I.turned (λb o hb e=>kk b o (by simpa using hb) e) f0 f1 f3 f4 f5;refine⟨_,rfl,rf (s:={s with heap:=h',toks:=tk}) (n := "range_iterator") lX rfl rfl (by decide) ⟨.int (lo+i),H,I1,⟨t,?_⟩,⟨rfl,rfl⟩,lX,λb hb=>(hf b hb).1⟩⟩;rw[Int.mul_one]
 done:=by
  intro X hP hw hK hc i pins s σ H E I hf st hg;subst hP hw hK;obtain⟨f0,f1,f2,f3,f4,f5⟩:=hf it (by simp);exact wpAny_pyNext_range_end (I.ok.hd hc) st (by have:n<=i:=hg;omega) λh' eb=>⟨rfl,I.turned (t':=s.toks) (λb o hb e=>eb b o hb e) f0 f1 f3 f4 f5⟩
 self:=λ_ _ _ _ _ st h=>wpAny_pyIter_rangeiter st h
section
variable {X:Cx} {tg:Expr}
def LR(K:PySem.W.Frag)(tl:TE):TI:=λσ H R=>tl σ H λx H1=>∃a,x=.ref a/\(∃xs,d5 K H1 a xs)/\R (Qe K a) H1
def Qg(K:PySem.W.Frag)(tl:TE):TI:=λσ H R=>tl σ H λx H1=>∃a,x=.ref a/\(∃xs,eJ K H1 a xs)/\R (Qf K a) H1
theorem mN{l:Expr}{tl:TE}(hl:PE X l tl):PI X tg l (LR X.K tl):=by
 intro pins s σ H R I h;refine bP (hl pins s σ H _ I h) ?_;rintro v s1 ⟨x,H1,I1,r1,q1⟩;obtain⟨a,e,⟨xs,hq⟩,q⟩:=q1;subst e;cases r1;obtain⟨ax,rv,p,hz⟩:=I1.list hq;refine tH p.isList ?_;refine⟨s1.heap.objs.size,[s1.heap.objs.size],_,_,H1,rfl,I1.kept (t':=s1.toks) λb o e=>bC _ e,t6 a _,⟨_,dC _ rfl,rfl,rfl⟩,λb hb=>?_,q⟩;have e:b=s1.heap.objs.size:=by simpa using hb
 subst e;exact I1.wR (a6 _) (I1.bc.fresh (a6 _))
theorem wU{l:Expr}{tl:TE}(hl:PE X l tl):PI X tg l (Qg X.K tl):=by
 intro pins s σ H R I h;refine bP (hl pins s σ H _ I h) ?_;rintro v s1 ⟨x,H1,I1,r1,q1⟩;obtain⟨a,e,⟨xs,hq⟩,q⟩:=q1;subst e;cases r1;obtain⟨ax,rv,p,hz⟩:=I1.tuple hq;refine tF (show s1.heap.IsTuple a ax.toArray from p) ?_;refine⟨s1.heap.objs.size,[s1.heap.objs.size],_,_,H1,rfl,I1.kept (t':=s1.toks) λb o e=>bC _ e,pZ a _,⟨_,dC _ rfl,rfl,rfl⟩,λb hb=>?_,q⟩;have e:b=s1.heap.objs.size:=by simpa using hb
 subst e;exact I1.wR (a6 _) (I1.bc.fresh (a6 _))
theorem og{pins:List (Addr×Obj)}{σ:St}{H:Hp}{s:Shared}{R:It->Hp->Prop}{E:Value->Shared->Prop}{lo hi:Int}{t u v:Tok}{tk:Nat}(I:Inv X pins σ H s)(h1:-(2 ^ 62)<=lo)(h2:lo<2 ^ 62)(h3:-(2 ^ 62)<=hi)(h4:hi<2 ^ 62)(q:R (LQ lo (hi-lo).toNat) H):wpAny (model X.prog X.w) X.A (pyIter (.ref s.heap.objs.size)) (S2 X pins σ tg R) E {s with heap:=s.heap.push {cls:=.type "range",data:=.fields #[.int lo t,.int hi u,.int 1 v]},toks:=tk}:=by
 refine wpAny_pyIter_range (IsRange.new ..) (small_one h1 h2 h3 h4) ?_;have I1:Inv X pins σ H {s with heap:=s.heap.push {cls:=.type "range",data:=.fields #[.int lo t,.int hi u,.int 1 v]},toks:=tk}:=I.kept λb o e=>bC _ e
 refine⟨(s.heap.push {cls:=.type "range",data:=.fields #[.int lo t,.int hi u,.int 1 v]}).objs.size,[(s.heap.push {cls:=.type "range",data:=.fields #[.int lo t,.int hi u,.int 1 v]}).objs.size],_,_,H,rfl,
  I1.kept (t':=tk) λb o e=>bC _ e,p0 _ lo (hi-lo).toNat,?_,λb hb=>?_,q⟩
 ·have e1:lo+((0:Nat):Int)*1=lo:=by simp
  have e2:(((hi-lo).toNat:Nat):Int)-((0:Nat):Int)=Builtin.Range.rangeSize lo hi 1:=by rw[rangeSize_one];split<;>omega
  show IsRangeIter _ _ (lo+((0:Nat):Int)*1) ((((hi-lo).toNat:Nat):Int)-((0:Nat):Int)) 1;rw[e1,e2];exact dC _ rfl
 ·have e:b=(s.heap.push {cls:=.type "range",data:=.fields #[.int lo t,.int hi u,.int 1 v]}).objs.size:=by simpa using hb
  subst e;exact I1.wR (a6 _) (I1.bc.fresh (a6 _))
def LS(ta:TA):TI:=λσ H R=>ta σ H λvs H1=>∃j:Int,vs=[.int j]/\-(2 ^ 62)<=j/\j<2 ^ 62/\R (LQ 0 j.toNat) H1
def LU(ta:TA):TI:=λσ H R=>ta σ H λvs H1=>∃i j:Int,vs=[.int i,.int j]/\(-(2 ^ 62)<=i/\i<2 ^ 62/\-(2 ^ 62)<=j/\j<2 ^ 62)/\R (LQ i (j-i).toNat) H1
theorem t7{a:Expr}{ta:TA}{p pos:Pos} (hg:Gl X "range") (hm:X.mg "range" = none) (ha:PA X [a] ta) (hs:starEach [a] X.env=[(false,eval a X.env)]:=by rfl):PI X tg (.Call (.Name "range" p) [a] [] pos) (LS ta):=by
 intro pins s σ H R I h;refine Call_ (iK I hg hm boot_range (zO (bP (ha pos pins s σ H _ I h) ?_) hs rfl));rintro us s1 ⟨vs,H1,I1,r1,q1⟩;obtain⟨j,e,q1,q2,q⟩:=q1;subst e
 cases r1 with
 | cons r rr =>
  cases rr;obtain⟨t,rfl⟩:=r;exact call_range_1 (og I1 ∅ ∅ q1 q2 (by simpa using q))
theorem t9{a b:Expr}{ta:TA}{p pos:Pos} (hg:Gl X "range") (hm:X.mg "range" = none) (ha:PA X [a,b] ta) (hs:starEach [a,b] X.env=[(false,eval a X.env),(false,eval b X.env)]:=by rfl) (wV:starEach [b] X.env=[(false,eval b X.env)]:=by rfl):PI X tg (.Call (.Name "range" p) [a,b] [] pos) (LU ta):=by
 intro pins s σ H R I h;refine Call_ (iK I hg hm boot_range (zO (bP (ha pos pins s σ H _ I h) ?_) (by rw[hs,wV]) (by rw[wV];rfl)));rintro us s1 ⟨vs,H1,I1,r1,q1⟩;obtain⟨i,j,e,⟨q1,q2,q3,q4⟩,q⟩:=q1;subst e
 cases r1 with
 | cons r rr =>
  cases rr with
  | cons r' rr =>
   cases rr;obtain⟨t,rfl⟩:=r;obtain⟨t',rfl⟩:=r';exact call_range_2 (og I1 q1 q2 q3 q4 q)
noncomputable def Qh(wi:TI)(g:TG)(tb:TS):TS:=λD σ H=>wi σ H λJ H1=>∃W:Nat->Nat->St->Hp->Prop,(∃m,W 0 m σ H1)/\∀i m σ H,W i m σ H ->
 (J.stop i H/\D.nx σ H)\/(J.go i H/\∃N:St->Hp->Prop,(∀cg H',N cg H'->∃m',m'<m/\W (i+1) m' cg H')/\∀x H',J.LP i H x H'->g x σ H' λFJ H2=>tb {D with nx:=N,ct:=N,bk:=D.nx} FJ H2)
noncomputable def iO(fp:List Addr)(h:Heap):List (Addr×Obj):=fp.filterMap λb=>(h.get? b).map λo=>(b,o)
theorem eY{fp:List Addr}{h:Heap}{b:Addr}{o:Obj}(hb:b∈fp)(e:h.get? b=some o):(b,o)∈iO fp h:=List.mem_filterMap.mpr ⟨b,hb,by rw[e];rfl⟩
theorem t_{fp:List Addr}{h:Heap}{p:Addr×Obj}(hp:p∈iO fp h):p.1∈fp/\h.get? p.1=some p.2:=by
 obtain⟨b,hb,e⟩:=List.mem_filterMap.mp hp
 cases q:h.get? b with
 | none=>rw[q]at e;cases e
 | some o =>
  rw[q]at e;have e':(b,o)=p:=cx e;subst e';exact⟨hb,q⟩
theorem Inv.pinned{pins:List (Addr×Obj)}{σ:St}{H:Hp}{s:Shared}{fp:List Addr}(I:Inv X pins σ H s)(hf:∀b∈fp,jx X pins H b)(ho:∀b∈fp,∃o,s.heap.get? b=some o/\∀v,o.data≠.cell v):Inv X (pins++iO fp s.heap) σ H s :=
 I.mK λp hp=>(gW.mp hp).elim (λz=>I.pin p (gA _ z)) λz=>by
  obtain⟨hb,e⟩:=t_ z;obtain⟨f0,f1,f2,_⟩:=hf p.1 hb;obtain⟨o,e',d⟩:=ho p.1 hb;rw[e]at e';cases e';exact⟨e,f0,f1,f2,d⟩
theorem Inv.fB{pins pl:List (Addr×Obj)}{σ:St}{H:Hp}{s:Shared}(I:Inv X (pins++pl) σ H s):Inv X pins σ H s:=I.mK λp hp=>I.pin p (gA _ (zS _ hp))
theorem FK{aC:Expr}{body:List Stmt}{wi:TI}{g:TG}{tb:TS}{pos:Pos}(hp:PassesOwn (model X.prog X.w) X.A X.env X.xe)(hc:X.calm=true)(hi:PI X tg aC wi)(hg:PG X tg g)(hb:t5 X body tb)(hs:∀x,foldedSetIterable aC X.env x=pure x:=by intro _;rfl):PS X (.For tg aC body [] pos) (Qh wi g tb):=by
 intro pins s σ H D I h;refine wpAny_For (bP (hi pins s σ H _ I h) λv s1 h1=>bP h1 λOS s2 h2=>?_) hs;obtain⟨it,fp,tn,J,H2,e,I2,T,mH,f2,W,⟨m0,w0⟩,wW⟩:=h2;subst e;have FL:∀{H':Hp},(∀b∈fp,H' b=none)->∀b∈fp,jx X pins H' b:=λhn b hb=>⟨hn b hb,(f2 b hb).2⟩;refine codeAny_forLoop_any (λn s'=>∃i cg H',Inv X pins cg H' s'/\tn i s'.heap/\(∀b∈fp,H' b=none)/\W i n cg H') ?_ m0 ⟨0,σ,H2,I2,mH,λb hb=>(f2 b hb).1,w0⟩;rintro n s3 ⟨i,Aj,H3,I3,OT,S3,w3⟩;rcases wW i n Aj H3 w3 with⟨stop,qn⟩|⟨go,N,hN,step⟩
 ·refine vg hp (bP (T.done X rfl rfl rfl hc i pins s3 Aj H3 X.xe I3 (FL S3) OT stop) ?_);rintro r s4 ⟨rfl,I4⟩;exact z3 ⟨Aj,H3,I4,qn⟩
 ·refine vg hp (bP (T.item X rfl rfl rfl hc i pins s3 Aj H3 X.xe I3 (FL S3) OT go) ?_);rintro r s4 ⟨u,rfl,h4⟩;refine vg hp (bP h4 ?_);rintro _ s5 ⟨x,H5,I5,r5,y5,Jd,OU⟩;have UH:=I5.pinned (FL OU) (T.obj _ _ Jd);refine vg hp (bP (hg _ s5 Aj H5 x u _ UH r5 (step x H5 y5)) ?_);rintro _ s6 ⟨UI,H6,I6,q6⟩;refine vg hp (bP (hb _ s6 UI H6 _ I6 q6) λf s7 q7=>?_)
  have again:∀{wX:St}{H7:Hp},Inv X (pins++iO fp s5.heap) wX H7 s7->N wX H7->∃m,m<n/\∃i cg H',Inv X pins cg H' s7/\tn i s7.heap/\(∀b∈fp,H' b=none)/\W i m cg H':=λ{wX H7} I7 n7=>by
   obtain⟨m',hm,w7⟩:=hN wX H7 n7;refine⟨m',hm,i+1,wX,H7,I7.fB,T.keep _ _ _ Jd λb hb o e=>(I7.pin (b,o) (gA _ (gA _ (eY hb e)))).1,λb hb=>?_,w7⟩;obtain⟨o,e,d⟩:=T.obj _ _ Jd b hb;exact(I7.pin (b,o) (gA _ (gA _ (eY hb e)))).2.1
  cases f with
  | next=>obtain⟨wX,H7,I7,n7⟩:=q7;exact again I7 n7
  | cont=>obtain⟨wX,H7,I7,n7⟩:=q7;exact again I7 n7
  | brk=>obtain⟨wX,H7,I7,q7⟩:=q7;exact⟨wX,H7,I7.fB,q7⟩
  | ret v=>obtain⟨x7,wX,H7,I7,r7,q7⟩:=q7;exact⟨x7,wX,H7,I7.fB,r7,q7⟩
end
abbrev R2:=V->V->Hp->VK->Prop
def fR(X:Cx)(f:Value->Value->Sem Value)(r:R2):Prop :=
 ∀(pins:List (Addr×Obj))(s:Shared)(σ:St)(H:Hp)(x y:V)(v u:Value)(Q:VK),Inv X pins σ H s->RelV x v->RelV y u->r x y H Q ->
  wpAny (model X.prog X.w) X.A (f v u) (EP X pins σ Q) X.xe s
def Qi(X:Cx)(f:Value->Sem Value)(r:V->Hp->VK->Prop):Prop :=
 ∀(pins:List (Addr×Obj))(s:Shared)(σ:St)(H:Hp)(x:V)(v:Value)(Q:VK),Inv X pins σ H s->RelV x v->r x H Q ->
  wpAny (model X.prog X.w) X.A (f v) (EP X pins σ Q) X.xe s
def dU(X:Cx)(f:Value)(r:List V->Hp->VK->Prop):Prop :=
 ∀(pins:List (Addr×Obj))(s:Shared)(σ:St)(H:Hp)(xs:List V)(us:List Value)(Q:VK),Inv X pins σ H s->aE xs us->r xs H Q ->
  wpAny (model X.prog X.w) X.A (call f us) (EP X pins σ Q) X.xe s
def Qj(X:Cx)(r:V->Hp->(Bool->Hp->Prop)->Prop):Prop :=
 ∀(pins:List (Addr×Obj))(s:Shared)(σ:St)(H:Hp)(x:V)(v:Value)(Q:Bool->Hp->Prop),Inv X pins σ H s->RelV x v->r x H Q ->
  wpAny (model X.prog X.w) X.A (truthy v) (TP X pins σ Q) X.xe s
noncomputable def FN(r:R2)(ta tb:TE):TE:=λσ H Q=>ta σ H λx H1=>tb σ H1 λy H2=>r x y H2 Q
noncomputable def UJ(r:V->Hp->VK->Prop)(ta:TE):TE:=λσ H Q=>ta σ H λx H1=>r x H1 Q
noncomputable def rI(C:Int->Int->Prop)(g:Int->Int->V):R2:=λx y H Q=>∃i j,x=.int i/\y=.int j/\C i j/\Q (g i j) H
noncomputable def DL(g:Int->Int->V):R2:=λx y H Q=>∃i j,x=.int i/\y=.int j/\Q (g i j) H
noncomputable def rU(g:Int->V):V->Hp->VK->Prop:=λx H Q=>∃i,x=.int i/\Q (g i) H
section
variable {X:Cx} {a b c:Expr} {ta tb tc:TE} {pos:Pos}
theorem FO(ha:PE X a ta)(hb:PE X b tb){pins:List (Addr×Obj)}{s:Shared}{σ:St}{H:Hp}{R:V->V->Hp->Prop}(I:Inv X pins σ H s)(h:ta σ H λx H1=>tb σ H1 λy H2=>R x y H2){Q:Value->Shared->Prop}{f:Value->Value->Sem Value}(hf:∀v u s2 x y H2,Inv X pins σ H2 s2->RelV x v->RelV y u->R x y H2->wpAny (model X.prog X.w) X.A (f v u) Q X.xe s2):wpAny (model X.prog X.w) X.A (eval a X.env) (λv bt=>wpAny (model X.prog X.w) X.A (eval b X.env) (λu mO=>wpAny (model X.prog X.w) X.A (f v u) Q X.xe mO) X.xe bt) X.xe s:=by
 refine bP (ha pins s σ H _ I h) ?_;rintro v s1 ⟨x,H1,I1,r1,q1⟩;refine bP (hb pins s1 σ H1 _ I1 q1) ?_;rintro u s2 ⟨y,H2,I2,r2,q2⟩;exact hf v u s2 x y H2 I2 r1 r2 q2
theorem DM{op:Operator}{r:R2}(ho:fR X (binaryOp op) r)(ha:PE X a ta)(hb:PE X b tb):PE X (.BinOp a op b pos) (FN r ta tb):=by
 intro pins s σ H Q I h;exact wpAny_BinOp (FO ha hb I h λv u s2 x y H2 I2 rx ry q=>ho pins s2 σ H2 x y v u Q I2 rx ry q)
theorem LV{op:UnaryOp}{r:V->Hp->VK->Prop}(ho:Qi X (unaryOp op) r)(ha:PE X a ta):PE X (.UnaryOp op a pos) (UJ r ta):=by
 intro pins s σ H Q I h;exact UnaryOp_ (bP (ha pins s σ H _ I h) λv s1 ⟨x,H1,I1,r1,q1⟩=>ho pins s1 σ H1 x v Q I1 r1 q1)
theorem OV{f:Value->Value->Sem Value}{C:Int->Int->Prop}{g:Int->Int->Int}(rule:∀(i j:Int)(t u:Tok)(s:Shared)(Q:Value->Shared->Prop)(E:Value->Shared->Prop),C i j->Q (.int (g i j) s.toks) {s with toks:=s.toks+1}->wpAny (model X.prog X.w) X.A (f (.int i t) (.int j u)) Q E s):fR X f (rI C λi j=>.int (g i j)):=by
 intro pins s σ H x y v u Q I rx ry h;obtain⟨i,j,rfl,rfl,hc,q⟩:=h;obtain⟨t,rfl⟩:=rx;obtain⟨t',rfl⟩:=ry;exact rule i j t t' s _ _ hc ⟨.int (g i j),H,I.tok _,⟨_,rfl⟩,q⟩
theorem LW{f:Value->Value->Sem Value}{g:Int->Int->Int}(rule:∀(i j:Int)(t u:Tok)(s:Shared)(Q:Value->Shared->Prop)(E:Value->Shared->Prop),Q (.int (g i j) s.toks) {s with toks:=s.toks+1}->wpAny (model X.prog X.w) X.A (f (.int i t) (.int j u)) Q E s):fR X f (DL λi j=>.int (g i j)):=by
 intro pins s σ H x y v u Q I rx ry h;obtain⟨i,j,rfl,rfl,q⟩:=h;obtain⟨t,rfl⟩:=rx;obtain⟨t',rfl⟩:=ry;exact rule i j t t' s _ _ ⟨.int (g i j),H,I.tok _,⟨_,rfl⟩,q⟩
theorem Ak{f:Value->Value->Sem Value}{g:Int->Int->Bool}(rule:∀(i j:Int)(t u:Tok)(s:Shared)(Q:Value->Shared->Prop)(E:Value->Shared->Prop),Q (.bool (g i j)) s->wpAny (model X.prog X.w) X.A (f (.int i t) (.int j u)) Q E s):fR X f (DL λi j=>.bl (g i j)):=by
 intro pins s σ H x y v u Q I rx ry h;obtain⟨i,j,rfl,rfl,q⟩:=h;obtain⟨t,rfl⟩:=rx;obtain⟨t',rfl⟩:=ry;exact rule i j t t' s _ _ ⟨.bl (g i j),H,I,rfl,q⟩
def Qk(i j:Int):Prop:=0<j/\j<1073741824
noncomputable def Ql(i j:Int):Prop:=0<=j/\j<=1000000/\i.natAbs<2 ^ 64
noncomputable def FP(i j:Int):Prop:=(-(2 ^ 64)<i/\i<2 ^ 64)\/(-(2 ^ 64)<j/\j<2 ^ 64)
theorem FP.ok{i j:Int}(h:FP i j):IntMulOk i j:=by
 rcases h with⟨h1,h2⟩|⟨h1,h2⟩
 ·exact .of_left (intBits_le_64 h1 h2)
 ·exact .of_right (intBits_le_64 h1 h2)
theorem FQ:fR X (binaryOp .Add) (DL λi j=>.int (i+j)):=LW λ_ _ _ _ _ _ _ q=>add_int q
theorem FR:fR X (binaryOp .Sub) (DL λi j=>.int (i-j)):=LW λ_ _ _ _ _ _ _ q=>sub_int q
theorem FT:fR X (binaryOp .Mult) (rI FP λi j=>.int (i*j)):=OV λ_ _ _ _ _ _ _ hc q=>mul_int q hc.ok
theorem Am:fR X (binaryOp .FloorDiv) (rI Qk λi j=>.int (i / j)):=OV λi j _ _ _ _ _ hc q=>by
 have h1:(0:Int)<j:=hc.1;have h2:j<1073741824:=hc.2;exact floordiv_int ∅ (by rw[Int.fdiv_eq_ediv_of_nonneg i ∅];exact q) (.inl (PyProof.noPylong_small ∅))
theorem FU:fR X (binaryOp .Mod) (rI (λ_ j=>0<j) λi j=>.int (i % j)):=OV λi j _ _ _ _ _ hc q=>by
 have h1:(0:Int)<j:=hc;exact mod_int' ∅ (by rw[Int.fmod_eq_emod_of_nonneg i ∅];exact q)
theorem FV:fR X (binaryOp .Pow) (rI Ql λi j=>.int (i ^ j.toNat)):=OV λ_ _ _ _ _ _ _ hc q=>pow_int_small hc.1 hc.2.1 hc.2.2 q
theorem UK{f:Value->Sem Value}{g:Int->Int}(rule:∀(i:Int)(t:Tok)(s:Shared)(Q:Value->Shared->Prop)(E:Value->Shared->Prop),Q (.int (g i) s.toks) {s with toks:=s.toks+1}->wpAny (model X.prog X.w) X.A (f (.int i t)) Q E s):Qi X f (rU λi=>.int (g i)):=by
 intro pins s σ H x v Q I rx h;obtain⟨i,rfl,q⟩:=h;obtain⟨t,rfl⟩:=rx;exact rule i t s _ _ ⟨.int (g i),H,I.tok _,⟨_,rfl⟩,q⟩
theorem FW:Qi X (unaryOp .USub) (rU λi=>.int (-i)):=UK λ_ _ _ _ _ q=>neg_int q
end
section
variable {X:Cx} {a b c:Expr} {ta tb tc:TE} {pos:Pos}
theorem mP{pins:List (Addr×Obj)}{σ:St}{H:Hp}{s:Shared}{Q:VK}{k k':Bool}(I:Inv X pins σ H s)(q:Q (.bl k) H)(e:k=k'):EP X pins σ Q (.bool k') s:=by
 subst e;exact⟨.bl k,H,I,rfl,q⟩
theorem LX:fR X (compareOp .Lt) (DL λi j=>.bl (decide (i<j))):=Ak λ_ _ _ _ _ _ _ q=>lt_int q
theorem LY:fR X (compareOp .LtE) (DL λi j=>.bl (decide (i<=j))):=Ak λ_ _ _ _ _ _ _ q=>le_int q
theorem LZ:fR X (compareOp .Gt) (DL λi j=>.bl (decide (j<i))):=Ak λ_ _ _ _ _ _ _ q=>gt_int q
theorem L0:fR X (compareOp .GtE) (DL λi j=>.bl (decide (j<=i))):=Ak λ_ _ _ _ _ _ _ q=>ge_int q
theorem ua:fR X (compareOp .Lt) (λx y H Q=>∃i j,x=.str i/\y=.str j/\Q (.bl (decide (i.cps.toList<j.cps.toList))) H):=by
 intro pins s σ H x y v u Q I rx ry h;obtain⟨i,j,rfl,rfl,q⟩:=h;obtain⟨t,rfl⟩:=rx;obtain⟨t',rfl⟩:=ry;exact lt_str (mP I q rfl)
theorem ub:fR X (compareOp .In) (λx y H Q=>∃i j,x=.str i/\y=.str j/\Q (.bl (!(Builtin.Str.occurrences j i 0 j.length 1).isEmpty)) H):=by
 intro pins s σ H x y v u Q I rx ry h;obtain⟨i,j,rfl,rfl,q⟩:=h;obtain⟨t,rfl⟩:=rx;obtain⟨t',rfl⟩:=ry;exact in_str (mP I q rfl)
theorem FX:fR X (compareOp .Is) (λx y H Q=>y=.br/\Q (.bl (decide (x=.br))) H):=by
 intro pins s σ H x y v u Q I rx ry h;obtain⟨rfl,q⟩:=h;cases ry;refine is_none_gen (mP I q ?_)
 cases x<;>first
  | (cases rx;rfl)
  | (obtain⟨t,rfl⟩:=rx;rfl)
theorem An:fR X (compareOp .IsNot) (λx y H Q=>y=.br/\Q (.bl (!decide (x=.br))) H):=by
 intro pins s σ H x y v u Q I rx ry h;obtain⟨rfl,q⟩:=h;cases ry;refine isnot_none_gen (mP I q ?_)
 cases x<;>first
  | (cases rx;rfl)
  | (obtain⟨t,rfl⟩:=rx;rfl)
theorem rg{op:CmpOp}{r:R2}(ho:fR X (compareOp op) r)(ha:PE X a ta)(hb:PE X b tb)(hm:behindInMarks op b=false):PE X (.Compare a [op] [b] pos) (FN r ta tb):=by
 intro pins s σ H Q I h;exact wpAny_Compare1 (FO ha hb I h λv u s2 x y H2 I2 rx ry q=>ho pins s2 σ H2 x y v u Q I2 rx ry q) hm
noncomputable def gp(t:TE):TT:=λσ H Q=>t σ H λx H'=>∃k,x=.bl k/\Q k H'
theorem rl{op:CmpOp}{r:R2}(ho:fR X (compareOp op) r)(ha:PE X a ta)(hb:PE X b tb)(hm:behindInMarks op b=false):PT X (.Compare a [op] [b] pos) (gp (FN r ta tb)):=by
 intro pins s σ H Q I h
 refine wpAny_isTrue_Compare1 (bP (ha pins s σ H _ I h) λv s1 ⟨x,H1,I1,r1,q1⟩=>bP (hb pins s1 σ H1 _ I1 q1) λu s2 ⟨y,H2,I2,r2,q2⟩ =>
  bP (ho pins s2 σ H2 x y v u _ I2 r1 r2 q2) λc s3 ⟨z,H3,I3,r3,k,e,q3⟩=>?_) hm
 subst e;cases r3;exact nT ⟨H3,I3,q3⟩
noncomputable def p6(r r':R2)(ta tb tc:TE):TE:=λσ H Q=>ta σ H λx H1=>tb σ H1 λy H2=>r x y H2 λz H3=>∃k,z=.bl k /\
 (if k=true then tc σ H3 λw' H4=>r' y w' H4 Q else Q (.bl false) H3)
theorem wY{op FY:CmpOp}{r r':R2}(ho:fR X (compareOp op) r)(wF:fR X (compareOp FY) r')(ha:PE X a ta)(hb:PE X b tb)(hc:PE X c tc)(hm:lastMarks [op,FY] [b,c]=false:=by with_unfolding_all rfl):PE X (.Compare a [op,FY] [b,c] pos) (p6 r r' ta tb tc):=by
 intro pins s σ H Q I h
 refine Compare_chain (bP (ha pins s σ H _ I h) λv s1 ⟨x,H1,I1,r1,q1⟩=>chain_link (bP (hb pins s1 σ H1 _ I1 q1) λu s2 ⟨y,H2,I2,r2,q2⟩ =>
  bP (ho pins s2 σ H2 x y v u _ I2 r1 r2 q2) λd s3 ⟨z,H3,I3,r3,k,e,q3⟩=>?_)) hm
 subst e;cases r3;refine nT ?_
 cases k with
 | false=>exact ite_ff ⟨.bl false,H3,I3,rfl,q3⟩
 | true=>exact ite_tt (chain_last (bP (hc pins s3 σ H3 _ I3 q3) λw' s4 ⟨z',H4,I4,r4,q4⟩=>wF pins s4 σ H4 y z' u w' Q I4 r2 r4 q4))
theorem wZ{op FY:CmpOp}{r r':R2}(ho:fR X (compareOp op) r)(wF:fR X (compareOp FY) r')(ha:PE X a ta)(hb:PE X b tb)(hc:PE X c tc)(hm:lastMarks [op,FY] [b,c]=false:=by with_unfolding_all rfl):PT X (.Compare a [op,FY] [b,c] pos) (gp (p6 r r' ta tb tc)):=by
 intro pins s σ H Q I h
 refine isTrue_chain (bP (ha pins s σ H _ I h) λv s1 ⟨x,H1,I1,r1,q1⟩=>test_link (bP (hb pins s1 σ H1 _ I1 q1) λu s2 ⟨y,H2,I2,r2,q2⟩ =>
  bP (ho pins s2 σ H2 x y v u _ I2 r1 r2 q2) λd s3 ⟨z,H3,I3,r3,k,e,q3⟩=>?_)) hm
 subst e;cases r3;refine nT ?_
 cases k with
 | false =>
  obtain⟨k',e',q'⟩:=q3;cases e';exact ite_ff ⟨H3,I3,q'⟩
 | true =>
  refine ite_tt (test_last (bP (hc pins s3 σ H3 _ I3 q3) λw' s4 ⟨z',H4,I4,r4,q4⟩=>bP (wF pins s4 σ H4 y z' u w' _ I4 r2 r4 q4) λd' s5 ⟨z2,H5,I5,r5,k2,e2,q5⟩=>?_));subst e2;cases r5;exact nT ⟨H5,I5,q5⟩
def w4(K:PySem.W.Frag)(x:V)(H:Hp)(k:Bool):Prop :=
 match x with
 | .br=>k=false
 | .bl b=>k=b
 | .int i=>k=(i != 0)
 | .str y=>y.length<=sizeLine/\k=((y.length:Int) != 0)
 | .Lp y=>y.size<=sizeLine/\k=((y.size:Int) != 0)
 | .ref p=>(∃xs,d5 K H p xs/\k=!xs.isEmpty)\/(∃xs,eJ K H p xs/\k=!xs.isEmpty)\/∃ak,H p=some (.dK ak)/\k=!ak.isEmpty
 | _=>False
theorem p7{κ:Type}{ak:List (κ×V)}{vs:List (κ×Value)}(r:KV ak vs):(!vs.isEmpty)=!ak.isEmpty:=by
 cases r<;>rfl
theorem j4{xs:List V}{ax:List Value}(r:aE xs ax):(!ax.toArray.isEmpty)=!xs.isEmpty:=by
 cases r<;>simp
theorem gE:(sizeLine:Nat)<2 ^ 63:=by rw[sizeLine_eq];decide
theorem FZ:Qj X (λx H Q=>∃k,w4 X.K x H k/\Q k H):=by
 intro pins s σ H x v Q I rx h;obtain⟨k,e,q⟩:=h;have hl:=gE;have hs:sizeLine=16777216:=sizeLine_eq
 cases x with
 | br =>
  cases rx;have e':k=false:=e;subst e';exact truthy_none ⟨H,I,q⟩
 | bl b =>
  cases rx;have e':k=b:=e;subst e';exact nT ⟨H,I,q⟩
 | int i =>
  obtain⟨t,rfl⟩:=rx;have e':k=(i != 0):=e;subst e';exact PySem.P.truthy_int ⟨H,I,q⟩
 | str y =>
  obtain⟨t,rfl⟩:=rx;obtain⟨hy,e'⟩:y.length<=sizeLine/\k=((y.length:Int) != 0):=e;subst e';exact PySem.P.truthy_str ∅ ⟨H,I.tok _,q⟩
 | Lp y =>
  obtain⟨t,rfl⟩:=rx;obtain⟨hy,e'⟩:y.size<=sizeLine/\k=((y.size:Int) != 0):=e;subst e';exact PySem.W.truthy_bytes ∅ ⟨H,I.tok _,q⟩
 | ref p =>
  cases rx;have e':(∃xs,d5 X.K H p xs/\k=!xs.isEmpty)\/(∃xs,eJ X.K H p xs/\k=!xs.isEmpty)\/∃ak,H p=some (.dK ak)/\k=!ak.isEmpty:=e;rcases e' with⟨xs,hx,e'⟩|⟨xs,hx,e'⟩|⟨ak,hx,e'⟩
  ·subst e';obtain⟨ax,r,pl,hz⟩:=I.list hx;have bu:=r.length;exact wpAny_truthy_list pl.isList (by simp only[cE];omega) ⟨H,I.tok _,by rw[j4 r];exact q⟩
  ·subst e';obtain⟨ax,r,pl,hz⟩:=I.tuple hx;have bu:=r.length;exact truthy_tuple pl (by simp only[cE];omega) ⟨H,I.tok _,by rw[j4 r];exact q⟩
  ·subst e';obtain⟨hz,hS,vs,r,m⟩:ak.length<=sizeLine/\(p==sysModules)=false/\∃vs,KV ak vs/\s.heap.DictOf (bo X.prog X.w) p vs:=I.bc p _ hx;have bu:ak.length=vs.length:=Paired.length r;exact wpAny_truthy_dict hS m ∅ ⟨H,I.tok _,by rw[p7 r];exact q⟩
 | _=>exact(show False from e).elim
theorem w6(ha:PE X a ta)(he:∀j1,isTrue a X.env j1=(do let v <- j1;standAt a.pos;holding [v] (truthy v))):PT X a (λσ H Q=>ta σ H λx H'=>∃k,w4 X.K x H' k/\Q k H'):=by
 intro pins s σ H Q I h;exact isTrue_plain (bP (ha pins s σ H _ I h) λv s1 ⟨x,H1,I1,r1,q1⟩=>FZ pins s1 σ H1 x v Q I1 r1 q1) (he _)
theorem p8:fR X (binaryOp .Add) (λx y H Q=>∃i j,x=.str i/\y=.str j/\i.length+j.length<=sizeLine/\Q (.str (i++j)) H):=by
 intro pins s σ H x y v u Q I rx ry h;obtain⟨i,j,rfl,rfl,hz,q⟩:=h;obtain⟨t,rfl⟩:=rx;obtain⟨t',rfl⟩:=ry;exact add_str (λt' tk=>⟨.str (i++j),H,I.tok _,⟨_,rfl⟩,q⟩) hz
theorem vals1{x:V}{us:List Value}(r:aE [x] us):∃u,us=[u]/\RelV x u:=by
 cases r with
 | cons r1 r2=>cases r2;exact⟨_,rfl,r1⟩
theorem vals2{x y:V}{us:List Value}(r:aE [x,y] us):∃u w',us=[u,w']/\RelV x u/\RelV y w':=by
 cases r with
 | cons r1 r2 =>
  cases r2 with
  | cons r3 r4=>cases r4;exact⟨_,_,rfl,r1,r3⟩
theorem lY:dU X (.type "int") (λxs H Q=>(∃i,xs=[.int i]/\Q (.int i) H)\/∃k,xs=[.bl k]/\Q (.int (if k then 1 else 0)) H):=by
 intro pins s σ H xs us Q I r h;rcases h with⟨i,rfl,q⟩|⟨k,rfl,q⟩
 ·obtain⟨u,rfl,t,rfl⟩:=vals1 r;exact call_int_int ⟨.int i,H,I,⟨_,rfl⟩,q⟩
 ·obtain⟨u,rfl,r1⟩:=vals1 r;cases r1;exact call_int_bool ⟨.int (if k then 1 else 0),H,I.tok _,⟨_,rfl⟩,q⟩
end
structure F0 (h:Heap) (x dx C:Addr) (mA:Str->Option Value):Prop where
 obj:h.get? x=some (PySem.W.instObj C dx)
 ns:h.Ns1 dx mA
 ne:dx≠x
theorem uc{h:Heap}{dx:Addr}{mA:Str->Option Value}(n:h.Ns1 dx mA):∃od,h.get? dx=some od/\∀name,PySem.W.lookIn name od=some (mA name):=by
 obtain⟨o,es,ep,ho,hd,hk,_,hm⟩:=n;refine⟨o,ho,λname=>?_⟩;have e:=hm name;unfold nsFind findBy at e;rw[<- Array.find?_toList]at e;unfold PySem.W.lookIn;rw[hd];dsimp only;split
 ·rename_i y q
  rw[q]at e;exact jt some e
 ·rename_i q
  rw[q]at e
  have a:es.toList.any (·.refKey)=false:=by
   rw[ET];intro y hy;obtain⟨z,t,Qm⟩:=hk y (Array.mem_toList_iff.mp hy);simp[DictEntry.refKey,Qm]
  have a':¬es.toList.any (·.refKey)=true:=by rw[a];exact aD
  rw[aR a'];exact jt some e
theorem F0.look{h:Heap}{x dx C:Addr}{mA:Str->Option Value}(I:F0 h x dx C mA):∃od,PySem.W.InstAt h x (PySem.W.instObj C dx) C (some od)/\∀name,PySem.W.lookIn name od=some (mA name) :=
 let ⟨od,ho,hl⟩:=uc I.ns
 ⟨od,⟨I.obj,rfl,rfl,ho⟩,hl⟩
theorem jY.rm{v:V}{o:Option Value}(r:jY (some v) o):∃u,o=some u/\RelV v u:=by
 cases o with
 | none=>exact(show False from r).elim
 | some u=>exact⟨u,rfl,r⟩
section
variable {P:Program} {w:World} {H H':Hp} {h h':Heap} {a C dx:Addr} {fs Uz:List (Str×V)}
theorem Ao(bc:gm P w H h)(e:H a=some (.ins C dx fs)):∃mA,F0 h a dx C mA/\(∀f,jY (fs.lookup f) (mA f))/\PySem.Within mA (fs.map (·.1))/\fs.length<=1000/\H dx=some (.own a):=by
 obtain⟨d,z,ne,ob,mA,n,r,q⟩:=(show bh P w H h a (.ins C dx fs) from bc a _ e);exact⟨mA,⟨ob,n,ne⟩,r,q,z,d⟩
end
structure Qn (K:PySem.W.Frag) (C:Addr):Prop where
 pg:PySem.W.plainGet K C Str.empty=true
 hd:PySem.W.hasDictIn K C=true
 po:PySem.W.plainOver K C=true
 sa:PySem.W.findIn K (.ref C) "__setattr__" = some (some (.builtin "object.__setattr__"))
theorem Qn.get{K:PySem.W.Frag}{C:Addr}(c:Qn K C)(f:Str):PySem.W.plainGet K C f=true:=c.pg
section
variable {X:Cx} {o e value:Expr} {f:Str} {pos UL UM:Pos} {ta tv:TE}
noncomputable def L1:V->V->Hp->VK->Prop:=λx y H Q=>∃i j,x=.int i/\y=.int j/\Q (.int (i-j)) H
end
section
variable {X:Cx} {pins:List (Addr×Obj)} {σ:St} {H:Hp} {s:Shared} {A:Around} {E:Value->Shared->Prop} {Q:Value->Shared->Prop} {c:Value} {b:Bool}
inductive gF (K:PySem.W.Frag) (H:Hp):V->Value->Prop where
  | br:gF K H .br (.type "NoneType")
  | bl (x:Bool):gF K H (.bl x) (.type "bool")
  | int (i:Int):gF K H (.int i) (.type "int")
  | str (x:Str):gF K H (.str x) (.type "str")
  | Fp (x:UInt64):gF K H (.Fp x) (.type "float")
  | lst {a:Addr} {xs:List V} (e:H a=some (.lst xs)):gF K H (.ref a) (.type "list")
  | eX {a:Addr} {o:Obj} {xs:List V} (e:H a=some (.eX o (.lst xs))):gF K H (.ref a) (.type "list")
  | tup {a:Addr} {xs:List V} (e:H a=some (.tup xs)):gF K H (.ref a) (.type "tuple")
  | dK {a:Addr} {ak:List (bG×V)} (e:H a=some (.dK ak)):gF K H (.ref a) (.type "dict")
  | dT {a:Addr} {ak:List (List bG×V)} (e:H a=some (.dT ak)):gF K H (.ref a) (.type "dict")
  | ins {a C dx : Addr} {fs : List (Str × V)} (e : H a = some (.ins C dx fs)) (cl : Qn K C) (ha : PySem.W.findIn K (.ref C) "__class__" = some (some (.builtin "object.__class__")))
      (hn:PySem.W.specialIn K (.builtin "object.__class__") "__get__" = some (some (.builtin "getset_descriptor.__get__"))) (Qo:PySem.W.takesIn K (.builtin "object.__class__")=some true)
      (hm:PySem.W.mroIn K C (.type "object")=some true):gF K H (.ref a) (.ref C)
theorem ud{x:V}{u t:Value}(I:Inv X pins σ H s)(rx:RelV x u)(ty:gF X.K H x t)(e:PySem.W.kitOne X.K t c=some b)(h:∀tk,Q (.bool b) {s with toks:=tk}):wpAny (model X.prog X.w) A (call (.builtin "isinstance") [u,c]) Q E s:=by
 cases ty with
 | br=>cases (show u=Value.none from rx);exact jU PySem.W.kitx_none I.g7 True.intro e (λz=>nomatch z) h
 | bl y=>cases (show u=Value.bool y from rx);exact jU PySem.W.kitx_bool I.g7 True.intro e (λz=>nomatch z) h
 | int i=>obtain⟨t,q⟩:=(show ∃t,u=Value.int i t from rx);cases q;exact jU PySem.W.kitx_int I.g7 True.intro e (λz=>nomatch z) h
 | str y=>obtain⟨t,q⟩:=(show ∃t,u=Value.str y t from rx);cases q;exact jU PySem.W.kitx_str I.g7 True.intro e (λz=>nomatch z) h
 | Fp y=>obtain⟨t,q⟩:=(show ∃t,u=Value.float y t from rx);cases q;exact jU PySem.W.kitx_float I.g7 True.intro e (λz=>nomatch z) h
 | @lst a xs ea =>
  cases (show u=Value.ref a from rx);obtain⟨_,_,n,_,h1⟩:=(show bh X.prog X.w H s.heap a (.lst xs) from I.bc a _ ea);exact jU zU I.g7 ⟨_,h1,rfl⟩ e (λz=>nomatch z) h
 | @eX a ob xs ea =>
  cases (show u=Value.ref a from rx);obtain⟨_,_,_,n,_,h1⟩:=(show bh X.prog X.w H s.heap a (.eX ob (.lst xs)) from I.bc a _ ea);exact jU zU I.g7 ⟨_,h1,rfl⟩ e (λz=>nomatch z) h
 | @tup a xs ea =>
  cases (show u=Value.ref a from rx);obtain⟨_,_,_,p⟩:=(show bh X.prog X.w H s.heap a (.tup xs) from I.bc a _ ea);obtain⟨o,h1,h2,_⟩:=p;exact jU PySem.W.kitx_tuple I.g7 ⟨o,h1,h2⟩ e (λz=>nomatch z) h
 | @dK a ak ea =>
  cases (show u=Value.ref a from rx);obtain⟨_,_,vs,_,p⟩:=(show bh X.prog X.w H s.heap a (.dK ak) from I.bc a _ ea);obtain⟨o,es,ep,h1,h2,_⟩:=p;exact jU zV I.g7 ⟨o,h1,h2.1⟩ e (λz=>nomatch z) h
 | @dT a ak ea =>
  cases (show u=Value.ref a from rx);obtain⟨_,_,xs,_,o,es,ep,h1,h2,_⟩:=(show bh X.prog X.w H s.heap a (.dT ak) from I.bc a _ ea);exact jU zV I.g7 ⟨o,h1,h2.1⟩ e (λz=>nomatch z) h
 | @ins a C dx fs ea cl ha hn Qo hm =>
  cases (show u=Value.ref a from rx);obtain⟨mA,O,_⟩:=Ao I.bc ea;obtain⟨od,J,_⟩:=O.look;exact jU (PySem.W.kitx_own (cl.get _) cl.hd ha hn Qo hm) I.g7 J e (λz=>nomatch z) h
end
structure gG (k:Nat) (A:Around):Prop where
 hd:A.handled=none
 dp:A.depth+3*k+5<recursionLimit
 un:A.units+16*k+200<cLine
 gd:A.guards=some []
theorem gG.mono{j k:Nat}{A:Around}(r:gG k A)(h:j<=k):gG j A:=⟨r.hd,by have:=r.dp;omega,by have:=r.un;omega,r.gd⟩
theorem gG.deeper{k:Nat}{A:Around}(r:gG (k+1) A)(env:Env):gG k (A.deeper env) :=
 ⟨r.hd,by have:=r.dp;show A.depth+1+3*k+5<_;omega,by have:=r.un;show A.units+3+16*k+200<_;omega,r.gd⟩
theorem gG.depth{k:Nat}{A:Around}(r:gG k A):A.depth<recursionLimit:=by have:=r.dp;omega
def Qp:TA:=λ_ H Q=>Q [] H
noncomputable def L3(ta:TE)(tr:TA):TA:=λσ H Q=>ta σ H λx H1=>tr σ H1 λxs H2=>Q (x::xs) H2
section
variable {X:Cx} {e:Expr} {es:List Expr} {te:TE} {t:TA} {pos:Pos}
theorem fC:PA X [] Qp:=λ_ _ _ _ H Q I h=>Calls.spliced_nil ⟨[],H,I,.nil,h⟩
theorem cm(ha:PE X e te)(hr:PA X es t)(hs:starEach (e::es) X.env=(false,eval e X.env)::starEach es X.env:=by rfl):PA X (e::es) (L3 te t):=by
 intro pos pins s σ H Q I h;rw[hs];show wpAny _ _ (spliced ((false,eval e X.env)::backTo pos (starEach es X.env))) _ _ s;refine Calls.spliced_cons (bP (ha pins s σ H _ I h) ?_);rintro u s1 ⟨x,H1,I1,r1,q1⟩;exact bP (hr pos pins s1 σ H1 _ I1 q1) λus s2 ⟨xs,H2,I2,r2,q2⟩=>⟨x::xs,H2,I2,.cons r1 r2,q2⟩
def Qq(t:TA):TE:=λσ H Q=>t σ H λxs H1=>xs.length<=sizeLine/\∀p,H1 p=none->Q (.ref p) (bw H1 p (.tup xs))
def Qr(t:TA):TE:=λσ H Q=>t σ H λxs H1=>xs.length<=sizeLine/\∀p,H1 p=none->Q (.ref p) (bw H1 p (.lst xs))
theorem w8 {x1} (h:PA X es t):PE X (.Tuple es x1 pos) (Qq t):=by
 intro pins s σ H Q I hq;refine wpAny_Tuple_spliced (bP (h pos pins s σ H _ I hq) λus s1 ⟨xs,H1,I1,r,z,q⟩=>⟨by rw[<- r.length];exact z,?_⟩);have hf:H1 s1.heap.objs.size=none:=I1.bc.fresh (a6 _);refine⟨.ref s1.heap.objs.size,bw H1 s1.heap.objs.size (.tup xs),I1.laid (t':=s1.toks) (λb u e=>bC _ e) (a6 _) ?_,rfl,q _ hf⟩;exact⟨z,us,r,⟨_,dC _ rfl,rfl,_,rfl⟩⟩
theorem F1(h:PA X es t):PE X (.List es pos) (Qr t):=by
 intro pins s σ H Q I hq;refine wpAny_List_spliced (bP (h pos pins s σ H _ I hq) λus s1 ⟨xs,H1,I1,r,z,q⟩=>⟨by rw[<- r.length];exact z,?_⟩);have hf:H1 s1.heap.objs.size=none:=I1.bc.fresh (a6 _);refine⟨.ref s1.heap.objs.size,bw H1 s1.heap.objs.size (.lst xs),I1.laid (t':=s1.toks) (λb u e=>bC _ e) (a6 _) ?_,rfl,q _ hf⟩;exact⟨z,us,0,r,dC _ rfl⟩
end
abbrev Sp:=List V->Hp->VK->XK->Prop
abbrev ue:=List Env->Hp->Shared->XK->Value->Shared->Prop
structure w_ (P:Program) (w:World) (K:PySem.W.Frag) (mg:Str->Option Value) (base:Heap) (A:Around) (outer:List Env) (s:Shared) (H:Hp):Prop where
 frames:A.frames=some outer
 mod:Mod K mg base
 bs:∀b o,base.get? b=some o->s.heap.get? b=some o/\H b=none
 Ad:base.objs.size<=s.heap.objs.size
 jw:s.heap.FunFrames base outer
 Ft:∀b∈wD outer,H b=none
 bc:gm P w H s.heap
 bare:AllBare s.gens
def CE(outer:List Env)(P:Program)(w:World)(H:Hp)(s:Shared)(Q:VK)(u:Value)(s':Shared):Prop :=
 ∃v H',s'.os=s.os/\AllBare s'.gens/\Un (wD outer) [] H H' s.heap s'.heap/\gm P w H' s'.heap/\RelV v u/\Q v H'
def CR(CX:ue)(outer:List Env)(P:Program)(w:World)(H:Hp)(s:Shared)(Q:VK)(E:XK)(r:Result)(s':Shared):Prop :=
 match r with
 | .ok (.ret u)=>CE outer P w H s Q u s'
 | .ok _=>False
 | .error e=>CX outer H s E e s'
structure fu (P:Program) (w:World) (K:PySem.W.Frag) (mg:Str->Option Value) (base:Heap) (CX:ue) (k:Nat) (f:Addr) (fd:FuncData) (ps:List Str) (sp:Sp):Prop where
 len:∀vs H Q E,sp vs H Q E->vs.length=ps.length
 run:∀(A:Around)(outer:List Env)(s:Shared)(H:Hp)(args:Args)(us:List Value)(vs:List V)(Q:VK)(E:XK),gG k A->w_ P w K mg base A outer s H->BindsTo s fd args (ps.zip us)->aE vs us->sp vs H Q E ->
  codeAny (model P w) A (.call (.ref f) args) (CR CX outer P w H s Q E) s
theorem fu.mono{P:Program}{w:World}{K:PySem.W.Frag}{mg:Str->Option Value}{base:Heap}{CX:ue}{j k:Nat}{f:Addr}{fd:FuncData}{ps:List Str}{sp:Sp}(F:fu P w K mg base CX j f fd ps sp)(h:j<=k):fu P w K mg base CX k f fd ps sp:=⟨F.len,λA outer s H args us vs Q E hr=>F.run A outer s H args us vs Q E (hr.mono h)⟩
section
variable {X:Cx} {pins:List (Addr×Obj)} {σ:St} {H:Hp} {s s':Shared}
theorem Inv.Qs(I:Inv X pins σ H s):w_ X.prog X.w X.K X.mg X.base X.A X.stack s H :=
 ⟨I.ok.frames,I.ok.mod,I.bs,d7 I.ok.Ad I.sz,I.stack,I.qZ,I.bc,I.bare⟩
theorem Inv.after{Q:VK}{u:Value}(I:Inv X pins σ H s)(h:CE X.stack X.prog X.w H s Q u s'):EP X pins σ Q u s':=by
 obtain⟨v,H',os,bare,un,bc,r,q⟩:=h;obtain⟨hh,g,d,t,UN⟩:=s';obtain rfl:UN=s.os:=os;exact⟨v,H',I.call (h':=hh) (g':=g) (d':=d) (t':=t) (ch:=[]) un bc bare (λb z=>absurd z (by simp)),r,q⟩
end
noncomputable def L4(sp:Sp)(DN:List V)(E:XK)(t:TA):TE:=λσ H Q=>t σ H λvs H1=>sp (vs++DN) H1 Q E
noncomputable def Binds(K:PySem.W.Frag)(fd:FuncData)(ps:List Str)(ds:List Value):Prop :=
 ∀(s:Shared)(us:List Value),K.In s.heap->(us++ds).length=ps.length->BindsTo s fd ⟨us,[]⟩ (ps.zip (us++ds))
theorem Binds.all{K:PySem.W.Frag}{fd:FuncData}{ps:List Str}(h:∀us:List Value,us.length=ps.length->bindArgs fd ⟨us,[]⟩=pure (ps.zip us)):Binds K fd ps []:=λs us _ hl=>by
 rw[z9]at hl⊢;exact .of_eq (h us hl)
noncomputable def mQ(CX:ue)(X:Cx)(E:XK):Prop:=∀(pins:List (Addr×Obj))(σ:St)(H:Hp)(s:Shared)(e:Value)(s':Shared),Inv X pins σ H s->CX X.stack H s E e s'->X.xe e s'
section
variable {X:Cx} {CX:ue} {k:Nat} {f C:Addr} {fd:FuncData} {ps:List Str} {sp:Sp} {DN:List V} {ds:List Value} {E:XK} {x m:Str} {p pos xa:Pos} {e o:Expr} {es:List Expr} {ta:TE} {t:TA}
theorem xb{pins:List (Addr×Obj)}{σ:St}{H:Hp}{s:Shared}{Q:VK}{us:List Value}{vs:List V}(F:fu X.prog X.w X.K X.mg X.base CX k f fd ps sp)(hr:gG k X.A)(hb:Binds X.K fd ps ds)(hd:aE DN ds)(hx:mQ CX X E)(I:Inv X pins σ H s)(r:aE vs us)(h:sp (vs++DN) H Q E):wpAny (model X.prog X.w) X.A (call (.ref f) us) (EP X pins σ Q) X.xe s:=by
 have r2:aE (vs++DN) (us++ds):=r.append hd;have hl:(us++ds).length=ps.length:=by rw[<- r2.length];exact F.len _ _ _ _ h
 refine wpAny_call (codeAny_mono (F.run X.A X.stack s H ⟨us,[]⟩ (us++ds) (vs++DN) Q E hr I.Qs (hb s us I.g7 hl) r2 h) λr s' hq=>?_)
 cases r with
 | error e=>exact hx pins σ H s e s' I hq
 | ok fl =>
  cases fl with
  | ret u=>exact I.after hq
  | next=>exact False.elim hq
  | brk=>exact False.elim hq
  | cont=>exact False.elim hq
theorem Ap(F:fu X.prog X.w X.K X.mg X.base CX k f fd ps sp)(hr:gG k X.A)(hg:Gl X x)(hm:X.mg x=some (.ref f))(hk:PySem.W.keepIn X.K (.ref f)=true)(hb:Binds X.K fd ps ds)(hd:aE DN ds)(hx:mQ CX X E)(ha:PA X (e::es) t) (L5:(x==("__debug__" : Str))=false:=by decide) (he:starEach (e::es) X.env=(false,eval e X.env)::starEach es X.env:=by rfl) (mR:(backTo pos (starEach es X.env)).any (·.1)=false:=by rfl):PE X (.Call (.Name x p) (e::es) [] pos) (L4 sp DN E t):=by
 intro pins s σ H Q I h;refine zT (mL I hg hm ?_ L5);refine PySem.W.callWith_K (h₀:=X.base) I.ok.mod.ON hk (bP (ha pos pins s σ H _ I h) λus s1 ⟨vs,H1,I1,r,q⟩=>⟨I1.g7,?_⟩) he mR;exact xb F hr hb hd hx I1 r q
end
structure jI (N P:List Str) (sc:Scope):Prop where
 kind:sc.kind=.function
 co:sc.isCoroutine=false
 gen:sc.isGenerator=false
 nd:N.Nodup
 pre:N.take P.length=P
 par:∀x∈P,sc.names.lookup x=some .local\/sc.names.lookup x=some .cell
 xh:∀y∈sc.names,y.2≠.free
theorem lZ{kindOf:Str->Option NameKind}{x:Str}:∀{oh:List (Str×Value)}{m:Str->Option Value},(∀v,(x,v)∉oh)->bindL kindOf oh m x=m x
 | [],_,_=>rfl
 | (n,v)::r,m,h=>by
  unfold bindL;rw[lZ λw hw=>h w (du _ hw)];split
  ·have:x≠n:=by rintro rfl;exact h v cD
   simp[this]
  ·rfl
theorem l0{kindOf:Str->Option NameKind}{x:Str}:∀{oh:List (Str×Value)}{m:Str->Option Value},(∀v,(x,v)∉oh)->bindC kindOf oh m x=m x
 | [],_,_=>rfl
 | (n,v)::r,m,h=>by
  unfold bindC;rw[l0 λw hw=>h w (du _ hw)];split
  ·rfl
  ·have:x≠n:=by rintro rfl;exact h v cD
   simp[this]
theorem l5{kindOf:Str->Option NameKind}{x:Str}{v:Value}:∀{P:List Str}{vs:List Value}{i:Nat}{m:Str->Option Value},P.Nodup->P[i]?=some x->vs[i]?=some v->kindOf x=some .local->bindL kindOf (P.zip vs) m x=some v
 | [],_,_,_,_,h,_,_=>by simp at h
 | _::_,[],_,_,_,_,h,_=>by simp at h
 | p::P,w::vs,0,m,nd,h1,h2,hk=>by
  simp at h1 h2;subst h1;subst h2;show bindL kindOf ((p,w)::P.zip vs) m p=_;unfold bindL;rw[lZ λv hv=>(vh.mp nd).1 (List.of_mem_zip hv).1,aG hk];simp
 | p::P,w::vs,i+1,m,nd,h1,h2,hk=>by
  show bindL kindOf ((p,w)::P.zip vs) m x=_;unfold bindL;exact l5 (i:=i) (vh.mp nd).2 (by simpa using h1) (by simpa using h2) hk
theorem l6{kindOf:Str->Option NameKind}{x:Str}{v:Value}:∀{P:List Str}{vs:List Value}{i:Nat}{m:Str->Option Value},P.Nodup->P[i]?=some x->vs[i]?=some v->kindOf x≠some .local->bindC kindOf (P.zip vs) m x=some v
 | [],_,_,_,_,h,_,_=>by simp at h
 | _::_,[],_,_,_,_,h,_=>by simp at h
 | p::P,w::vs,0,m,nd,h1,h2,hk=>by
  simp at h1 h2;subst h1;subst h2;show bindC kindOf ((p,w)::P.zip vs) m p=_;unfold bindC;rw[l0 λv hv=>(vh.mp nd).1 (List.of_mem_zip hv).1,aR hk];simp
 | p::P,w::vs,i+1,m,nd,h1,h2,hk=>by
  show bindC kindOf ((p,w)::P.zip vs) m x=_;unfold bindC;exact l6 (i:=i) (vh.mp nd).2 (by simpa using h1) (by simpa using h2) hk
noncomputable def start(N:List Str)(vs:List V):St:=vs.map some++List.replicate (N.length-vs.length) none
noncomputable def p9(CX:ue)(P:Program)(w:World)(K:PySem.W.Frag)(mg:Str->Option Value)(base:Heap)(N:List Str)(qual:Str)(scope:Scope)(f:Addr)(cd:Value)(A:Around)(outer:List Env)(s:Shared)(H:Hp)(E:XK):Cx where
 prog:=P
 w:=w
 K:=K
 mg:=mg
 base:=base
 A:=A.deeper (envOfC qual scope s.heap.objs.size f cd)
 N:=N
 dg:=s
 H₀:=H
 env:=envOfC qual scope s.heap.objs.size f cd
 outer:=outer
 stack:=envOfC qual scope s.heap.objs.size f cd::outer
 ex:=[]
 calm:=true
 fn:=λ_=>true
 pn:=[]
 xe:=λe s'=>wpAny (model P w) (A.deeper (envOfC qual scope s.heap.objs.size f cd)) (leaving (envOfC qual scope s.heap.objs.size f cd) e) (λ_ L6=>CX outer H s E e L6) (λe' L6=>CX outer H s E e' L6) s'
theorem om{sc:Scope}{n:Nat}{x:Str}(h:sc.names.lookup x=some .cell):∃c,(cellsFrom n sc.names []).lookup x=some c:=by
 have q:=PySem.W.cellsFrom_some sc.names n [] (.inl h);exact tm.mp q
theorem uf{CX:ue}{P:Program}{w:World}{K:PySem.W.Frag}{mg:Str->Option Value}{base:Heap}{N ps:List Str}{qual:Str}{scope:Scope}{f:Addr}{cd:Value}{A:Around}{outer:List Env}{s s1:Shared}{H:Hp}{E:XK}{us:List Value}{vs:List V}(S:jI N ps scope)(hd:A.handled=none)(e0:w_ P w K mg base A outer s H)(hl:vs.length=ps.length)(r:aE vs us)(x:InCallC s s.heap.objs.size (bindL (envOfC qual scope s.heap.objs.size f cd).kindOf (ps.zip us) λ_=>none) (cellsFrom (s.heap.objs.size+1) scope.names []) (bindC (envOfC qual scope s.heap.objs.size f cd).kindOf (ps.zip us) λ_=>none) s1):Inv (p9 CX P w K mg base N qual scope f cd A outer s H E) [] (start N vs) H s1:=by
 have mR:ps.length<=N.length:=by have:=jt List.length S.pre;rw[jS]at this;omega
 obtain⟨h1,tk,rfl,hk⟩:=x.done;have L7:∀b:Addr,b∉(p9 CX P w K mg base N qual scope f cd A outer s H E).ex:=λb z=>absurd (show b∈([]:List Addr) from z) (by simp)
 refine⟨⟨e0.mod,S.kind,rfl,rfl,a6 _,λy z c h1 h2=>?_,λy hy=>?_,λy c _ h=>?_,λ_=>hd,Around.frames_deeper e0.frames,.inr ⟨rfl,rfl⟩,λb z=>absurd z (L7 b),e0.bs,e0.Ad,λb _ _=>L7 b,λb z=>absurd z (L7 b),e0.jw,e0.Ft⟩,
  rfl,e0.bare,Un.kept hk,⟨_,x.toInCall.ns,λi y v h1 h2 h3=>?_⟩,λy c h=>⟨_,x.cell y c h⟩,e0.bc.fresh (a6 _),λy c h=>?_,λp hp=>absurd (show p∈([]:List (Addr×Obj)) from hp) (by simp),e0.bc.kept hk,?_⟩
 ·exact name_of_addr x.apart (jR h1) (jR h2)
 ·have hy:scope.names.lookup y=some .cell\/scope.names.lookup y=some .free:=hy;rcases hy with hy | hy
  ·exact om hy
  ·exact absurd rfl (S.xh _ (jR hy))
 ·exact vv (x.above y c (jR h))
 ·have hi:i<vs.length:=by
   unfold start at h2;by_cases hi:i<vs.length
   ·exact hi
   ·rw[nQ (by simpa using hi)]at h2;rw[List.getElem?_replicate]at h2;split at h2<;>cases h2
  have ha:vs[i]?=some v:=by
   unfold start at h2;rw[gz (by simpa using hi),dP]at h2
   cases e:vs[i]? with
   | none=>rw[e]at h2;cases h2
   | some a=>rw[e]at h2;cases h2;rfl
  obtain⟨u,hu,rv⟩:=r.get ha
  have hp:ps[i]?=some y:=by
   rw[<- S.pre,List.getElem?_take_of_lt ∅];exact h1
  have S4:ps.Nodup:=by rw[<- S.pre];exact S.nd.sublist (List.take_sublist _ _)
  refine⟨u,rv,?_⟩;rcases S.par y (eL hp)with k | k
  ·exact .inl ⟨k,l5 S4 hp hu k⟩
  ·obtain⟨c,e⟩:=om (n:=s.heap.objs.size+1) k;refine .inr ⟨.inl k,c,e,?_⟩;have q:=x.cell y c e;rw[l6 S4 hp hu (by show scope.names.lookup y≠_;rw[k];decide)]at q;exact q
 ·exact e0.bc.fresh (vv (x.above y c (jR h)))
 ·unfold start;show _=N.length;rw[eW,aV,EL];omega
theorem L8 {CX : ue} {P : Program} {w : World} {K : PySem.W.Frag} {mg : Str -> Option Value} {base : Heap} {k : Nat} {f : Addr} {name qual : Str} {params : Arguments} {body : List Stmt} {scope : Scope} {dV kV doc pm oo ct oc : Value} {an od : Option Addr}
    {oq:Array (Option Value)} {N ps:List Str} {sp:Sp} (lk:K.lookup f=some ⟨oc,od,.func (PySem.W.fnOf name qual params body scope dV kV doc pm an oo ct),oq⟩) (zD:PySem.W.codeIn K oo qual=true) (S:jI N ps scope)
    (len:∀vs H Q E,sp vs H Q E->vs.length=ps.length)
    (L9:∀(A:Around)(outer:List Env)(s:Shared)(H:Hp)(vs:List V)(Q:VK)(E:XK),gG k (A.deeper (envOfC qual scope s.heap.objs.size f oo))->sp vs H Q E ->
      ∃t,t5 (p9 CX P w K mg base N qual scope f oo A outer s H E) body t/\t {nx:=λ_ H'=>Q .br H',rt:=Q} (start N vs) H) :
    fu P w K mg base CX (k+1) f (PySem.W.fnOf name qual params body scope dV kV doc pm an oo ct) ps sp:=by
  refine⟨len,λA outer s H args us vs Q E hr e0 hb r DO=>?_⟩;have hl:=len _ _ _ _ DO;have KX:K.In s.heap:=e0.mod.ON.keeps λb o e=>(e0.bs b o e).1;have lim:s.heap.NoLimit:=e0.mod.nolimit.keeps λb o e=>(e0.bs b o e).1
  have xi:∀y∈ps.zip us,scope.names.lookup y.1=some .local\/(scope.names.lookup y.1=some .cell/\((cellsFrom (s.heap.objs.size+1) scope.names []).lookup y.1).isSome=true):=λ⟨n,v⟩ hy=>by
    rcases S.par n (List.of_mem_zip hy).1 with q | q
    · exact .inl q
    · exact .inr ⟨q,PySem.W.cellsFrom_some _ _ _ (.inl q)⟩
  refine codeAny_call_function hr.depth (KX _ _ lk) rfl S.co S.gen rfl (PySem.W.codeRec_of KX zD) (hb _ _ _ _ ?_);refine wpAny_newFunctionEnv_cells S.kind xi λenv he s1 x=>?_;subst he;refine⟨lim.keeps x.toInCall.keep,codeAny_func ?_⟩;obtain⟨t,ht,hq⟩:=L9 A outer s H vs Q E (hr.deeper _) DO;have I:Inv (p9 CX P w K mg base N qual scope f oo A outer s H E) [] (start N vs) H s1:=uf S hr.hd e0 hl r x;refine iJ (ht [] s1 (start N vs) H _ I hq) (λfl s' hs=>?_) λe s' hs=>hs
  have fin:∀{cg:St}{H':Hp}{v:V}{u:Value},Inv (p9 CX P w K mg base N qual scope f oo A outer s H E) [] cg H' s'->RelV v u->Q v H'->CE outer P w H s Q u s' :=
    λ{cg H' v u} J rv q=>⟨v,H',J.os,J.bare,J.base,J.bc,rv,q⟩
  cases fl with
  | ret u =>
    obtain⟨v,cg,H',J,rv,q⟩:=hs;exact fin J rv q
  | next =>
    obtain⟨cg,H',J,q⟩:=hs;exact fin (v:=V.br) (u:=Value.none) J rfl q
  | brk =>
    obtain⟨_,_,_,q⟩:=hs;exact False.elim q
  | cont =>
    obtain⟨_,_,_,q⟩:=hs;exact False.elim q
section
variable {X:Cx} {x:Str} {p pos:Pos} {e:Expr} {es:List Expr} {t:TA} {id T:String} {r:List V->Hp->VK->Prop}
noncomputable def Qt(r:List V->Hp->VK->Prop)(t:TA):TE:=λσ H Q=>t σ H λvs H1=>r vs H1 Q
theorem g8(hc:dU X (.builtin id) r)(hg:Gl X x)(hm:X.mg x=none)(hv:bootBuiltins x=some (.builtin id))(ha:PA X (e::es) t) (hn:x≠ "__name__" := by decide) (L5:(x==("__debug__" : Str))=false:=by decide) (he:starEach (e::es) X.env=(false,eval e X.env)::starEach es X.env:=by rfl) (mR:(backTo pos (starEach es X.env)).any (·.1)=false:=by rfl):PE X (.Call (.Name x p) (e::es) [] pos) (Qt r t):=by
 intro pins s σ H Q I h;refine zT (iK I hg hm hv ?_ hn L5);exact PyProof.Rows.callWith_builtin1 (bP (ha pos pins s σ H _ I h) λus s1 ⟨vs,H1,I1,r1,q1⟩=>hc pins s1 σ H1 vs us Q I1 r1 q1) he mR
theorem fS(hc:dU X (.type T) r)(hg:Gl X x)(hm:X.mg x=none)(hv:bootBuiltins x=some (.type T))(ha:PA X (e::es) t) (hn:x≠ "__name__" := by decide) (L5:(x==("__debug__" : Str))=false:=by decide) (he:starEach (e::es) X.env=(false,eval e X.env)::starEach es X.env:=by rfl) (mR:(backTo pos (starEach es X.env)).any (·.1)=false:=by rfl):PE X (.Call (.Name x p) (e::es) [] pos) (Qt r t):=by
 intro pins s σ H Q I h;refine zT (iK I hg hm hv ?_ hn L5);exact zO (bP (ha pos pins s σ H _ I h) λus s1 ⟨vs,H1,I1,r1,q1⟩=>hc pins s1 σ H1 vs us Q I1 r1 q1) he mR
end
section
variable {κ:Type} [DecidableEq κ]
noncomputable def jy(ak:List (κ×V))(k:κ):Option V:=(ak.find? λkv=>decide (kv.1=k)).map (·.2)
noncomputable def d8(ak:List (κ×V))(k:κ)(v:V):List (κ×V) :=
 if (ak.any λkv=>decide (kv.1=k))=true then ak.map (λkv=>if kv.1=k then (kv.1,v) else kv) else ak++[(k,v)]
theorem g9{p:κ×V}{r:List (κ×V)}{k:κ}(e:p.1=k):jy (p::r) k=some p.2:=by simp[jy,lF,e]
theorem g_{p:κ×V}{r:List (κ×V)}{k:κ}(e:¬p.1=k):jy (p::r) k=jy r k:=by simp[jy,lF,e]
theorem ou(k:κ):∀ak:List (κ×V),(ak.any λkv=>decide (kv.1=k))=(jy ak k).isSome
 | []=>rfl
 | p::r=>by
  rw[vp];by_cases e:p.1=k
  ·simp only[g9 e,gX e,Bool.true_or,Option.isSome_some]
  ·rw[g_ e,df e,Bool.false_or];exact ou k r
theorem fD(ak:List (κ×V))(k:κ)(v:V):(d8 ak k v).length<=ak.length+1:=by
 unfold d8;split
 ·rw[aV];omega
 ·rw[eW,iH,List.length_nil];omega
theorem jY.ug{o:Option V}{u:Option Value}(r:jY o u):o.isSome=u.isSome:=by
 cases o with
 | none=>cases u with
  | none=>rfl
  | some _=>exact(show False from r).elim
 | some _=>cases u with
  | none=>exact(show False from r).elim
  | some _=>rfl
theorem KV.val{ak:List (κ×V)}{vs:List (κ×Value)}(r:KV ak vs)(k:κ):jY (jy ak k) (valueAt vs k):=by
 unfold KV at r
 induction r with
 | nil=>exact True.intro
 | @cons p q ps qs h t ih =>
  obtain⟨h1,h2⟩:=h;by_cases e:p.1=k
  ·have e':q.1=k:=h1.symm.trans e;have b:valueAt (q::qs) k=some q.2:=by simp[valueAt,lF,e']
   rw[g9 e,b];exact h2
  ·have e':¬q.1=k:=λz=>e (h1.trans z);have b:valueAt (q::qs) k=valueAt qs k:=by simp[valueAt,lF,e']
   rw[g_ e,b];exact ih
theorem KV.any{ak:List (κ×V)}{vs:List (κ×Value)}(r:KV ak vs)(k:κ):(ak.any λkv=>decide (kv.1=k))=vs.any λkv=>decide (kv.1=k):=by
 unfold KV at r
 induction r with
 | nil=>rfl
 | cons h t ih=>rw[vp,vp,ih,h.1]
theorem KV.F2{ak:List (κ×V)}{vs:List (κ×Value)}(r:KV ak vs)(k:κ){y:V}{u:Value}(ry:RelV y u):KV (ak.map λkv=>if kv.1=k then (kv.1,y) else kv) (vs.map λkv=>if kv.1=k then (kv.1,u) else kv):=by
 unfold KV at r⊢
 induction r with
 | nil=>exact .nil
 | @cons p q ps qs h t ih =>
  rw[cA,cA];refine .cons ?_ ih;obtain⟨h1,h2⟩:=h;by_cases e:p.1=k
  ·rw[aG e,aG (h1.symm.trans e)];exact⟨h1,ry⟩
  ·rw[aR e,aR (λz=>e (h1.trans z))];exact⟨h1,h2⟩
theorem KV.put{ak:List (κ×V)}{vs:List (κ×Value)}(r:KV ak vs)(k:κ){y:V}{u:Value}(ry:RelV y u):KV (d8 ak k y) (stored vs k u):=by
 unfold d8 stored;rw[r.any k];by_cases e:(vs.any λkv=>decide (kv.1=k))=true
 ·rw[aG e,aG e];exact r.F2 k ry
 ·rw[aR e,aR e];exact Paired.snoc r ⟨rfl,ry⟩
theorem KV.length{ak:List (κ×V)}{vs:List (κ×Value)}(r:KV ak vs):ak.length=vs.length:=Paired.length r
end
theorem l7{P:Program}{w:World}{k:bG}{u:Value}(r:RelV (kV k) u):(bo P w).is k u=true:=by
 cases k with
 | inl i=>obtain⟨t,e⟩:=(show ∃t,u=Value.int i t from r);subst e;exact nW P w i t
 | inr x=>obtain⟨t,e⟩:=(show ∃t,u=Value.str x t from r);subst e;exact fx P w x t
theorem l8{P:Program}{w:World}:∀{ks:List bG}{us:List Value},aE (ks.map kV) us->ItemsAre (bo P w) ks us
 | [],_,r=>by rw[tQ]at r;cases r;exact .nil
 | k::ks,_,r=>by
  rw[cA]at r
  cases r with
  | cons h t=>exact .cons (l7 h) (l8 t)
abbrev KT(H:Hp):List (List bG×V)->List (List bG×Addr×Value)->Prop:=Paired λp q=>p.1=q.1/\H q.2.1=some (.tup (p.1.map kV))/\RelV p.2 q.2.2
theorem KT.val{H:Hp}{ak:List (List bG×V)}{xs:List (List bG×Addr×Value)}(r:KT H ak xs)(k:List bG):jY (jy ak k) ((atKey xs k).map (·.2)):=by
 induction r with
 | nil=>exact True.intro
 | @cons p q ps qs h t ih =>
  obtain⟨h1,_,h2⟩:=h;by_cases e:p.1=k
  ·have e':q.1=k:=h1.symm.trans e;have b:atKey (q::qs) k=some q.2:=by simp[atKey,lF,e']
   rw[g9 e,b];exact h2
  ·have e':¬q.1=k:=λz=>e (h1.trans z);have b:atKey (q::qs) k=atKey qs k:=by simp[atKey,lF,e']
   rw[g_ e,b];exact ih
theorem KT.F2{H:Hp}{ak:List (List bG×V)}{xs:List (List bG×Addr×Value)}(r:KT H ak xs)(k:List bG){y:V}{u:Value}(ry:RelV y u):KT H (ak.map λkv=>if kv.1=k then (kv.1,y) else kv) (xs.map (putAt k u)):=by
 induction r with
 | nil=>exact .nil
 | @cons p q ps qs h t ih =>
  rw[cA,cA];refine .cons ?_ ih;obtain⟨h1,h2,h3⟩:=h;unfold putAt;by_cases e:p.1=k
  ·rw[aG e,aG (h1.symm.trans e)];exact⟨h1,h2,ry⟩
  ·rw[aR e,aR (λz=>e (h1.trans z))];exact⟨h1,h2,h3⟩
theorem KT.put{H:Hp}{ak:List (List bG×V)}{xs:List (List bG×Addr×Value)}(r:KT H ak xs)(k:List bG){b:Addr}{y:V}{u:Value}(hb:H b=some (.tup (k.map kV)))(ry:RelV y u):KT H (d8 ak k y) (storedH xs k b u):=by
 have e:(ak.any λkv=>decide (kv.1=k))=(atKey xs k).isSome:=by
  rw[ou,(r.val k).ug,Option.isSome_map]
 unfold d8 storedH;rw[e];by_cases q:(atKey xs k).isSome=true
 ·rw[aG q,aG q];exact r.F2 k ry
 ·rw[aR q,aR q];exact Paired.snoc r ⟨rfl,hb,ry⟩
theorem KT.keeps{H H':Hp}{ak:List (List bG×V)}{xs:List (List bG×Addr×Value)}(r:KT H ak xs)(ht:∀b ys,H b=some (.tup ys)->H' b=some (.tup ys)):KT H' ak xs :=
 Paired.Lr r λ_ _ z=>⟨z.1,ht _ _ z.2.1,z.2.2⟩
section
variable {P:Program} {w:World} {H:Hp} {h:Heap} {a:Addr}
theorem xj{u:HO}(ok:gm P w H h)(e:Rd H a u):bh P w H h a u:=e.ok ok
theorem xk{ak:List (bG×V)}(ok:gm P w H h)(e:Rd H a (.dK ak)):ak.length<=sizeLine/\(a==sysModules)=false/\∃vs,KV ak vs/\h.DictOf (bo P w) a vs :=
 show bh P w H h a (.dK ak) from xj ok e
theorem DP{ak:List (bG×V)}(ok:gm P w H h)(e:H a=some (.dK ak)):ak.length<=sizeLine/\(a==sysModules)=false/\∃vs,KV ak vs/\h.DictOf (bo P w) a vs:=xk ok (.inl e)
theorem p_{ks:List bG}(ok:gm P w H h)(e:H a=some (.tup (ks.map kV))):(tupleKind (bo P w)).is h ks a:=by
 obtain⟨_,ax,r,o,h1,h2,n,h3⟩:=(show bh P w H h a (.tup (ks.map kV)) from ok a _ e);exact⟨o,ax.toArray,n,h1,h2,h3,by simpa using l8 r⟩
theorem xl{ak:List (List bG×V)}(ok:gm P w H h)(e:Rd H a (.dT ak)):ak.length<=sizeLine/\(a==sysModules)=false/\∃xs,KT H ak xs/\h.DictOfH (tupleKind (bo P w)) a xs:=by
 obtain⟨z,y,xs,r,o,es,ep,h1,h2,h3,h4,h5⟩:=(show bh P w H h a (.dT ak) from xj ok e);refine⟨z,y,xs,r,o,es,ep,h1,h2,h3,h4,λx hx=>?_,h5⟩
 have all:∀{l:List (List bG×V)}{m:List (List bG×Addr×Value)},KT H l m->∀x∈m,(tupleKind (bo P w)).is h x.1 x.2.1:=by
  intro l m q
  induction q with
  | nil=>intro x hx;exact nomatch hx
  | @cons p q ps qs hq t ih =>
   intro x hx;rcases bF.mp hx with e | hx
   ·subst e;exact p_ ok (by rw[<- hq.1];exact hq.2.1)
   ·exact ih x hx
 exact all r x hx
theorem L_{ak:List (List bG×V)}(ok:gm P w H h)(e:H a=some (.dT ak)):ak.length<=sizeLine/\(a==sysModules)=false/\∃xs,KT H ak xs/\h.DictOfH (tupleKind (bo P w)) a xs:=xl ok (.inl e)
end
def mS(H:Hp)(a:Addr)(y:V)(r:Option V):Prop :=
 (∃ak k,Rd H a (.dK ak)/\y=kV k/\r=jy ak k)\/∃ak k b,Rd H a (.dT ak)/\y=.ref b/\H b=some (.tup (k.map kV))/\r=jy ak k
def uh(H:Hp)(a:Addr)(y v:V)(H':Hp):Prop :=
 (∃ak k,H a=some (.dK ak)/\y=kV k/\ak.length<sizeLine/\H'=bw H a (.dK (d8 ak k v))) \/
 ∃ak k b,H a=some (.dT ak)/\y=.ref b/\H b=some (.tup (k.map kV))/\ak.length<sizeLine/\H'=bw H a (.dT (d8 ak k v))
theorem mS.k{H:Hp}{a:Addr}{ak:List (bG×V)}{k:bG}(e:H a=some (.dK ak)):mS H a (kV k) (jy ak k):=.inl ⟨ak,k,.inl e,rfl,rfl⟩
theorem uh.k{H:Hp}{a:Addr}{ak:List (bG×V)}{k:bG}{v:V}(e:H a=some (.dK ak))(hl:ak.length<sizeLine):uh H a (kV k) v (bw H a (.dK (d8 ak k v))):=.inl ⟨ak,k,e,rfl,hl,rfl⟩
theorem uh.t{H:Hp}{a b:Addr}{ak:List (List bG×V)}{k:List bG}{v:V}(e:H a=some (.dT ak))(eb:H b=some (.tup (k.map kV)))(hl:ak.length<sizeLine):uh H a (.ref b) v (bw H a (.dT (d8 ak k v))):=.inr ⟨ak,k,b,e,rfl,eb,hl,rfl⟩
section
variable {X:Cx} {pins:List (Addr×Obj)} {σ:St} {H:Hp} {s:Shared} {a:Addr} {y v:V} {u r:Value} {o:Option V} {A:Around} {E:Value->Shared->Prop}
theorem Inv.big(I:Inv X pins σ H s):sysModules<s.heap.objs.size:=by
 have h:mainGlobals<s.heap.objs.size:=(I.mod.glob.keeps I.bk).lt;exact iI (by decide) h
theorem iP{Q:Value->Shared->Prop}(hu:A.units+1<cLine)(I:Inv X pins σ H s)(g:mS H a y (some v))(ry:RelV y u)(h:∀w' s',Inv X pins σ H s'->RelV v w'->Q w' s'):wpAny (model X.prog X.w) A (getItem (.ref a) u) Q E s:=by
 rcases g with⟨ak,k,e,ey,l⟩|⟨ak,k,b,e,ey,eb,l⟩
 ·subst ey;obtain⟨z,hd,vs,qa,dd⟩:=xk I.bc e;obtain⟨w',hw,ui⟩:=jY.rm (v:=v) (o:=valueAt vs k) (by rw[l];exact qa.val k);exact wpAny_getItem_of (l7 ry) dd.mapOf hw (h w' _ (I.tok _) ui)
 ·subst ey;cases (show u=Value.ref b from ry);obtain⟨z,hd,xs,qa,dd⟩:=xl I.bc e;obtain⟨w',hw,ui⟩:=jY.rm (v:=v) (o:=(atKey xs k).map (·.2)) (by rw[l];exact qa.val k);obtain⟨p,hp,UO⟩:=EJ.mp hw;refine wpAny_getItem_heap (tupleKind_room_in1 hu) (p_ I.bc eb) dd hp ?_;rw[UO];exact h w' _ (I.tok _) ui
theorem mT{h':Heap}{t':Nat}{ob:HO}(I:Inv X pins σ H s)(mu:Lv (H a))(hs:Heap.SameBut a s.heap h')(he:∃q,h'.get? a=some q)(new:bh X.prog X.w (bw H a ob) h' a ob):Inv X pins σ (bw H a ob) {s with heap:=h',toks:=t'} :=
 I.write (x:=a) (e:=a) mu (.inl rfl) (λb q hb z=>(hs.2 b hb).trans z) he new
theorem xm{P:Program}{w:World}{H':Hp}{h':Heap}{ak:List (bG×V)}{vs:List (bG×Value)}(z:ak.length<=sizeLine)(hd:(a==sysModules)=false)(qa:KV ak vs)(dd:h'.DictOf (bo P w) a vs):bh P w H' h' a (.dK ak):=⟨z,hd,vs,qa,dd⟩
theorem uj{H':Hp}{Q:Unit->Shared->Prop}(hu:A.units+1<cLine)(I:Inv X pins σ H s)(g:uh H a y v H')(ry:RelV y u)(rv:RelV v r)(h:∀s',Inv X pins σ H' s'->Q () s'):wpAny (model X.prog X.w) A (setItem (.ref a) u r) Q E s:=by
 rcases g with⟨ak,k,e,ey,l,eH⟩|⟨ak,k,b,e,ey,eb,l,eH⟩
 ·subst ey eH;obtain⟨z,hd,vs,qa,dd⟩:=DP I.bc e;have hz:vs.length<=sizeLine:=by rw[<- qa.length];exact z
  have hl:(d8 ak k v).length<=sizeLine:=by have:=fD ak k v;omega
  refine wpAny_setItem_pairs (hsz:=hz) (l7 ry) dd λh' F3 hs=>h _ ?_;have he:∃q,h'.get? a=some q:=let ⟨q,_,_,hq,_⟩:=F3;⟨q,hq⟩
  exact mT I (by rw[e];exact True.intro) hs he (xm hl hd (qa.put k rv) F3)
 ·subst ey eH;cases (show u=Value.ref b from ry);obtain⟨z,hd,xs,qa,dd⟩:=L_ I.bc e;have hz:xs.length<=sizeLine:=by rw[<- Paired.length qa];exact z
  have hl:(d8 ak k v).length<=sizeLine:=by have:=fD ak k v;omega
  refine wpAny_setItem_heap (hsz:=hz) (tupleKind_room_in1 hu) (p_ I.bc eb) dd λh' F3 hs=>h _ ?_;obtain⟨q,es,ep,hq,h2,h3,h4,_,h5⟩:=F3;refine mT I (by rw[e];exact True.intro) hs ⟨q,hq⟩ ⟨hl,hd,_,(qa.put k eb rv).keeps λc ys ec=>?_,q,es,ep,hq,h2,h3,h4,h5⟩;rw[ar (Lq ec e (λz=>nomatch z))];exact ec
end
def Ma(i:Expr):Prop:=∀ov iv,subscripted i false ov iv=operate [ov,iv] (getItem ov iv)
theorem Aq{prog:Program}{w:World}{A:Around}{E:Value->Shared->Prop}{s:Shared}{env:Env}{value dW:Expr}{pos:Pos}{T id:String}{Q:Value->Shared->Prop} (hl:typeLookup (.type T) "__getitem__" = pure (some (.builtin id))) (hs:Ma dW) (h:wpAny (model prog w) A (eval value env) (λo bt=>wpAny (model prog w) A (eval dW env) (λi mO=>mO.TypeIs o T/\wpAny (model prog w) A (getItem o i) Q E mO) E bt) E s):wpAny (model prog w) A (eval (.Subscript value dW pos) env) Q E s:=by
 refine Subscript_ (iJ h (λo bt uk=>iJ uk (λi mO xn=>?_) λ_ _ x=>x) λ_ _ x=>x);obtain⟨hT,xn⟩:=xn;unfold subscriptTail;refine ah ?_;rw[getitemInPython_of_ne hT.not_modules];refine ah (wpAny_specialOf hT hl ?_)
 have fin:wpAny (model prog w) A (subscripted dW false o i) (λr ow=>wpAny (model prog w) A (letTemporaryGo value o r >>= λ_=>pure r) Q E ow) E mO:=by
  rw[hs o i];exact wpAny_operating (iJ xn (λr ow Ar=>ah (wpAny_letTemporaryGo (a7 Ar))) λ_ _ x=>x)
 first
  | exact a7 (ah fin)
  | exact ah (a7 (ah fin))
  | exact ah fin
theorem fE{X:Cx}{pins:List (Addr×Obj)}{σ:St}{H:Hp}{s:Shared}{a:Addr}{y:V}{o:Option V}(I:Inv X pins σ H s)(g:mS H a y o):s.TypeIs (.ref a) "dict" := by
 rcases g with⟨ak,k,e,_,_⟩|⟨ak,k,b,e,_,_,_⟩
 ·obtain⟨_,_,vs,_,dd⟩:=xk I.bc e;exact dd.typeIs
 ·obtain⟨_,_,xs,_,dd⟩:=xl I.bc e;exact dd.typeIs
theorem ox{P:Program}{w:World}{H:Hp}(h:Heap)(hb:sysModules<h.objs.size):bh P w H (h.push {cls:=.type "dict",data:=.dict #[]}) h.objs.size (.dK []) :=
 ⟨Nat.zero_le _,lE.mpr (ju (eM hb)),[],.nil,Heap.DictOf.new h⟩
def F4:TE:=λ_ H Q=>∀p,H p=none->Q (.ref p) (bw H p (.dK []))
section
variable {X:Cx} {pos:Pos}
theorem xo:PE X (.Dict [] [] pos) F4:=λpins s σ H Q I h =>
 wpAny_Dict_empty ⟨.ref s.heap.objs.size,_,I.laid (a:=s.heap.objs.size) (o:=.dK []) (t':=s.toks) (λ_ _ q=>bC _ q) (a6 _) (ox s.heap I.big),rfl,h _ (I.bc.fresh (a6 _))⟩
end
noncomputable def eZ:List (TE×TE)->St->Hp->(List (V×V)->Hp->Prop)->Prop
 | [],_,H,Q=>Q [] H
 | (tk,tv)::r,σ,H,Q=>tk σ H λx H1=>tv σ H1 λy H2=>eZ r σ H2 λps H3=>Q ((x,y)::ps) H3
abbrev VV:List (V×V)->List (Value×Value)->Prop:=Paired λp q=>RelV p.1 q.1/\RelV p.2 q.2
def Je(X:Cx)(pos:Pos)(keys:List (Option Expr))(j5:List Expr)(j6:List (TE×TE)):Prop :=
 ∀(pins:List (Addr×Obj))(s:Shared)(σ:St)(H:Hp)(Q:List (V×V)->Hp->Prop),Inv X pins σ H s->eZ j6 σ H Q ->
  wpAny (model X.prog X.w) X.A (evalPairs (pairTrees keys j5 X.env pos)) (λvs s'=>∃ps H',Inv X pins σ H' s'/\VV ps vs/\Q ps H') X.xe s
theorem As{X:Cx}{pos:Pos}:Je X pos [] [] []:=λpins s σ H Q I h=>pairTrees_nil_walk ⟨[],H,I,.nil,h⟩
theorem xq{X:Cx}{pos:Pos}{k v:Expr}{ks:List (Option Expr)}{vs:List Expr}{tk tv:TE}{j6:List (TE×TE)}(hk:PE X k tk)(hv:PE X v tv)(hr:Je X pos ks vs j6):Je X pos (some k::ks) (v::vs) ((tk,tv)::j6):=λpins s σ H Q I h =>
 pairTrees_cons_walk (bP (hk pins s σ H _ I h) λu s1 ⟨x,H1,I1,rx,q1⟩=>bP (hv pins s1 σ H1 _ I1 q1) λw2 s2 ⟨y,H2,I2,ry,q2⟩ =>
  bP (hr pins s2 σ H2 _ I2 q2) λws s3 ⟨ps,H3,I3,qa,q3⟩=>⟨(x,y)::ps,H3,I3,.cons ⟨rx,ry⟩ qa,q3⟩)
def eB(ak jv:List (bG×V)):List (bG×V):=jv.foldl (λaB kv=>d8 aB kv.1 kv.2) ak
theorem KV.merge:∀{jv:List (bG×V)}{rs:List (bG×Value)}{ak:List (bG×V)}{vs:List (bG×Value)},KV jv rs->KV ak vs->KV (eB ak jv) (merged vs rs):=by
 intro jv rs ak vs r;unfold KV at r
 induction r generalizing ak vs with
 | nil=>intro q;exact q
 | @cons p q ps qs h t ih =>
  intro r0
  have e:KV (d8 ak p.1 p.2) (stored vs q.1 q.2):=by
   have:=r0.put p.1 h.2;rw[<- h.1];exact this
  exact ih e
theorem gq:∀(jv ak:List (bG×V)),(eB ak jv).length<=ak.length+jv.length
 | [],ak=>by show ak.length<=ak.length+0;omega
 | p::r,ak=>by
  have h1:=gq r (d8 ak p.1 p.2);have h2:=fD ak p.1 p.2;show(eB (d8 ak p.1 p.2) r).length<=_;rw[iH];omega
theorem j7{P:Program}{w:World}:∀{ak:List (bG×V)}{ws:List (Value×Value)},VV (ak.map λkv=>(kV kv.1,kv.2)) ws->∃rs,Carries (bo P w) ws rs/\KV ak rs
 | [],_,r=>by rw[tQ]at r;cases r;exact⟨[],True.intro,.nil⟩
 | p::ak,_,r=>by
  rw[cA]at r
  cases r with
  | @cons a b as bs h t =>
   obtain⟨rs,c,q⟩:=j7 (P:=P) (w:=w) t;obtain⟨b1,b2⟩:=b;exact⟨(p.1,b2)::rs,⟨l7 h.1,rfl,c⟩,.cons ⟨rfl,h.2⟩ q⟩
def Mb(j6:List (TE×TE)):TE:=λσ H Q=>∀p,H p=none->eZ j6 σ (bw H p (.dK [])) λps H2=>H2 p=some (.dK [])/\∃ak:List (bG×V),ps=ak.map (λkv=>(kV kv.1,kv.2))/\ak.length<=15/\Q (.ref p) (bw H2 p (.dK (eB [] ak)))
theorem Au{X:Cx}{pos:Pos}{keys:List (Option Expr)}{j5:List Expr}{j6:List (TE×TE)}(h:Je X pos keys j5 j6)(xr:keys.all (·.isSome)=true)(hl:keys.length=j5.length)(h0:keys≠[])(Mc:keys.length<=15):PE X (.Dict keys j5 pos) (Mb j6):=by
 intro pins s σ H Q I q;have hn:=I.bc.fresh (a6 s.heap.objs.size);have I1:=I.laid (a:=s.heap.objs.size) (o:=.dK []) (h':=s.heap.push {cls:=.type "dict",data:=.dict #[]}) (t':=s.toks) (λ_ _ q=>bC _ q) (a6 _) (ox s.heap I.big);refine wpAny_Dict_walk (knd:=bo X.prog X.w) xr hl h0 Mc (bP (h pins _ σ _ _ I1 (q _ hn)) ?_);rintro ws s2 ⟨ps,H2,I2,qa,e,ak,rfl,lk,q2⟩;obtain⟨rs,c,rk⟩:=j7 (P:=X.prog) (w:=X.w) qa;obtain⟨z,hd,Xr,r0,dd⟩:=DP I2.bc e;cases r0;refine⟨rs,c,dd,λh' F3 hs=>⟨.ref s.heap.objs.size,_,?_,rfl,q2⟩⟩
 have hz:(eB [] ak).length<=sizeLine:=by
  have h1:=gq ak [];rw[List.length_nil]at h1;rw[sizeLine_eq];omega
 have he:∃q,h'.get? s.heap.objs.size=some q:=let ⟨q,_,_,hq,_⟩:=F3;⟨q,hq⟩
 exact mT I2 (by rw[e];exact True.intro) hs he (xm hz hd (rk.merge .nil) F3)
end L2
namespace HT
open PySem PyProof.Rows
section
open PySem.SeqAt
open PySem.AutoSeq1 (wpAny_loadPart')
open PySem.MeetsSeq PySem.MeetsSeq2 PySem.MeetsSeq3
end
section
variable {prog:Program} {w:World} {A:Around} {E:Value->Shared->Prop} {s:Shared}
theorem Av{t b:Addr}{vs ws:List Value}{Q:Value->Shared->Prop}(ht:IsTup s.heap t vs.toArray)(hb:IsTup s.heap b ws.toArray)(hv:vs≠[])(h1:ws=[]->Q (.ref t) s) (h2:ws≠[]->Q (.ref s.heap.objs.size) {s with heap:=s.heap.push {cls:=.type "tuple",data:=.seq (vs++ws).toArray}}) (hsz:vs.length+ws.length<=sizeLine):wpAny (model prog w) A (binaryOp .Add (.ref t) (.ref b)) Q E s:=by
 obtain⟨⟨cls,dd,data,sl⟩,ho,hc,n,hd⟩:=id ht;obtain⟨⟨Qu,OW,data2,OX⟩,F5,DQ,n2,Aw⟩:=id hb;simp only at hc hd DQ Aw;subst hc hd DQ Aw;have e:vs.toArray++ws.toArray=(vs++ws).toArray:=by simp
 by_cases hw:ws=[]
 ·exact concat_meets ⟨_,ho,rfl⟩ ⟨_,F5,rfl⟩ noFill_tuple_add seq_tuple_add EK EH (EG _ _)
   (tuple_addW1 t b vs.toArray ws.toArray n n2 dd OW sl OX (by simpa using hv) (by simp[hw])) ⟨ho,F5,h1 hw⟩
 ·refine concat_meets ⟨_,ho,rfl⟩ ⟨_,F5,rfl⟩ noFill_tuple_add seq_tuple_add EK EH (EG _ _)
   (tuple_addW2 t b vs.toArray ws.toArray n n2 dd OW sl OX (by simpa using hv) (by simpa using hw) (by rw[cE,cE];exact hsz)) ⟨ho,F5,?_⟩
  rw[e];exact h2 hw
noncomputable def cj(n d:Nat):Option Int->Nat
 | none=>d
 | some v=>if v<0 then (v+(n:Int)).toNat else min v.toNat n
theorem xt(n d:Nat):cj n d none=d:=rfl
theorem Ax(n d k:Nat):cj n d (some (k:Int))=min k n:=by
 show(if (k:Int)<0 then ((k:Int)+(n:Int)).toNat else min (k:Int).toNat n)=min k n;rw[aR ∅,EU]
theorem F6(n d:Nat)(hd:d<=n)(o:Option Int):cj n d o<=n:=by
 cases o with
 | none=>exact hd
 | some v =>
  show(if v<0 then (v+(n:Int)).toNat else min v.toNat n)<=n;by_cases hv:v<0
  ·rw[aG hv];omega
  ·rw[aR hv];exact Nat.min_le_right _ _
theorem rn(v:Int)(n d:Nat):(if v<0 then max (v+(n:Int)) 0 else min v (n:Int))=((cj n d (some v):Nat):Int):=by
 show(if v<0 then max (v+(n:Int)) 0 else min v (n:Int))=(((if v<0 then (v+(n:Int)).toNat else min v.toNat n):Nat):Int);by_cases hv:v<0
 ·simp only[aG hv];omega
 ·simp only[aR hv];omega
theorem qc(lo hi:Option Int)(n:Nat):Builtin.Slice.sliceAdjust lo hi 1 (n:Int)=(((cj n 0 lo:Nat):Int),((cj n n hi:Nat):Int)):=by
 have h1:¬((1:Int)<0):=∅;unfold Builtin.Slice.sliceAdjust;simp only[h1,if_false];refine Prod.ext ?_ ?_
 ·cases lo with
  | none=>rfl
  | some v=>exact rn v n 0
 ·cases hi with
  | none=>rfl
  | some v=>exact rn v n n
theorem qd(i j:Nat):Builtin.Slice.slicePlaces (i:Int) (j:Int) 1=j-i:=by
 unfold Builtin.Slice.slicePlaces;have h1:(1:Int)>0:=∅;simp only[h1,gY,Int.ediv_one];split<;>omega
theorem j8{v:Value}{o:Option Int}{Q:Option Int->Shared->Prop}(p:IsPart v o)(h:Q o s):wpAny (model prog w) A (Builtin.Slice.slicePartIndex v) Q E s:=by
 cases p with
 | none=>exact slicePart_none h
 | int i t=>exact slicePart_int h
theorem eN{sl:Addr}{vl vu:Value}{lo hi:Option Int}{n:Nat}{Q:Int×Int×Nat->Shared->Prop}(hs:s.heap.IsSliceOf sl vl vu .none)(pl:IsPart vl lo)(pu:IsPart vu hi)(h:Q (((cj n 0 lo:Nat):Int),1,cj n n hi-cj n 0 lo) s):wpAny (model prog w) A (Builtin.Slice.sliceApplied (.ref sl) (pure (n:Int))) Q E s:=by
 obtain⟨os,F7,F8,Md⟩:=id hs;unfold Builtin.Slice.sliceApplied Builtin.Slice.sliceFields;refine ah (ah (gc F7 Md (x:=vl) rfl (ah (gc F7 Md (x:=vu) rfl (ah (gc F7 Md (x:=.none) rfl (a7 ?_)))))));refine ah (slicePart_none ?_);show wpAny _ _ (if ((1:Int)==0)=true then _ else _) _ _ s;rw[aR (by decide)];refine ah (j8 pl (ah (j8 pu (ah (a7 ?_)))));show wpAny _ _ (match Builtin.Slice.sliceAdjust lo hi 1 (n:Int)with | (lo,hi)=>pure (lo,(1:Int),Builtin.Slice.slicePlaces lo hi 1)) _ _ s;rw[qc lo hi n];show wpAny _ _ (pure (((cj n 0 lo:Nat):Int),(1:Int),Builtin.Slice.slicePlaces ((cj n 0 lo:Nat):Int) ((cj n n hi:Nat):Int) 1)) _ _ s;rw[qd];exact a7 h
theorem xu(xs:Array Value)(i k:Nat):((List.range k).filterMap λ(m:Nat)=>xs[((i:Int)+(m:Int)*1).toNat]?).toArray=((xs.toList.drop i).take k).toArray:=by
 have e:(λ(m:Nat)=>xs[((i:Int)+(m:Int)*1).toNat]?)=λm=>xs[i+m]?:=by
  funext m;have:((i:Int)+(m:Int)*1).toNat=i+m:=∅;rw[this]
 rw[e];have:=pick_run xs i k;rw[List.filterMap_map]at this;have e2:((λx=>xs[x]?)∘λx=>i+x)=λm=>xs[i+m]?:=rfl;rw[e2]at this;rw[this]
theorem hG{t sl:Addr}{items:Array Value}{vl vu:Value}{lo hi:Option Int}{Q:Value->Shared->Prop}(ht:IsTup s.heap t items)(hs:s.heap.IsSliceOf sl vl vu .none)(pl:IsPart vl lo)(pu:IsPart vu hi)(hw:¬(cj items.size 0 lo=0/\cj items.size items.size hi=items.size)) (h:Q (.ref s.heap.objs.size) {s with heap:=s.heap.push {cls:=.type "tuple",data:=.seq ((items.toList.drop (cj items.size 0 lo)).take (cj items.size items.size hi-cj items.size 0 lo)).toArray}}) (hsz:items.size<=sizeLine):wpAny (model prog w) A (getItem (.ref t) (.ref sl)) Q E s:=by
 have rq:sizeOk (.seq ((items.toList.drop (cj items.size 0 lo)).take (cj items.size items.size hi-cj items.size 0 lo)).toArray):=by
  show((items.toList.drop (cj items.size 0 lo)).take (cj items.size items.size hi-cj items.size 0 lo)).toArray.size<=sizeLine;rw[cE,jS,List.length_drop,tB];omega
 have hj:cj items.size items.size hi<=items.size:=F6 _ _ (a6 _) hi;obtain⟨os,F7,F8,Md⟩:=id hs;have Qv:s.TypeIs (.ref sl) "slice" := ⟨os,F7,F8⟩;unfold getItem
 try with_reducible refine mF ?_
 first | refine ah (a7 ?_) | skip
 refine ah (wpAny_sequenceKey ht.typeIs (by decide) ?_)
 refine ah (tq (name:=Str.ofString "__getitem__") ht.typeIs tf
  (pT tf ht.typeIs entry_tuple_getitem ?_ (args_tuple_getitem _ _)))
 show wpAny _ _ (Builtin.Tuple.tupleItemsOf (.ref t) >>= _) _ _ s;refine ah (tupleItemsOf_ ht ?_);refine ah (wpAny_typeOf Qv ?_);rw[aG (by decide)];refine ah (eN hs pl pu ?_)
 have UP:¬((((cj items.size 0 lo:Nat):Int)==0&&(1:Int)==1&&(cj items.size items.size hi-cj items.size 0 lo)==items.size)=true):=by
  intro q;rw[aA,aA]at q;have q1:((cj items.size 0 lo:Nat):Int)=0:=eq_of_beq q.1.1;have q2:cj items.size items.size hi-cj items.size 0 lo=items.size:=eq_of_beq q.2;exact hw ⟨∅,∅⟩
 show wpAny _ _ (if (((cj items.size 0 lo:Nat):Int)==0&&(1:Int)==1&&(cj items.size items.size hi-cj items.size 0 lo)==items.size)=true then _ else _) _ _ s;rw[aR UP,xu]
 first
  | exact ah (m:=Builtin.Tuple.tupleExact _) (pQ (a7 ⟨_,rfl,a7 h⟩) rq)
  | exact ah (m:=Builtin.Tuple.tupleExact _) (pQ (ah (a7 (a7 ⟨_,rfl,a7 h⟩))) rq)
  | exact ah (ah (m:=Builtin.Tuple.tupleExact _) (pQ (a7 (a7 ⟨_,rfl,a7 h⟩)) rq))
  | exact ah (ah (m:=Builtin.Tuple.tupleExact _) (pQ (a7 ⟨_,rfl,a7 h⟩) rq))
end
end HT
namespace L2
open PySem PySem.Spec PyProof.Rows
abbrev TO:=St->Hp->(Option Int->Hp->Prop)->Prop
noncomputable def PO(X:Cx)(e:Option Expr)(t:TO):Prop :=
 ∀(pins:List (Addr×Obj))(s:Shared)(σ:St)(H:Hp)(Q:Option Int->Hp->Prop),Inv X pins σ H s->t σ H Q ->
  wpAny (model X.prog X.w) X.A (evalPart e X.env) (λu s'=>∃o H',Inv X pins σ H' s'/\IsPart u o/\Q o H') X.xe s
def Ay:TO:=λ_ H Q=>Q none H
noncomputable def Mf(t:TE):TO:=λσ H Q=>t σ H λx H1=>∃i,x=.int i/\Q (some i) H1
section
variable {X:Cx} {e:Expr} {te:TE} {lo hi:Option Expr} {tl th:TO} {pos p2:Pos}
theorem Az:PO X none Ay:=by
 intro pins s σ H Q I h;rw[evalPart_none];exact a7 ⟨none,H,I,.none,h⟩
theorem AA(h:PE X e te):PO X (some e) (Mf te):=by
 intro pins s σ H Q I hw;rw[evalPart_some];refine bP (h pins s σ H _ I hw) ?_;rintro u s1 ⟨x,H1,I1,r1,q1⟩;obtain⟨i,rfl,q⟩:=q1;obtain⟨t,rfl⟩:=r1;exact⟨some i,H1,I1,.int i t,q⟩
def Mg(X:Cx)(r:V->Option Int->Option Int->Hp->VK->Prop):Prop :=
 ∀(pins:List (Addr×Obj))(s:Shared)(σ:St)(H:Hp)(x:V)(v vl vu:Value)(lo hi:Option Int)(sl:Addr)(Q:VK),Inv X pins σ H s->RelV x v->s.heap.IsSliceOf sl vl vu .none->IsPart vl lo->IsPart vu hi->r x lo hi H Q ->
  ∃T id,typeLookup (.type T) "__getitem__" = pure (some (.builtin id))/\s.TypeIs v T/\wpAny (model X.prog X.w) X.A (getItem v (.ref sl)) (EP X pins σ Q) X.xe s
noncomputable def UQ(r:V->Option Int->Option Int->Hp->VK->Prop)(te:TE)(tl th:TO):TE:=λσ H Q=>te σ H λx H1=>tl σ H1 λl H2=>th σ H2 λu H3=>r x l u H3 Q
theorem xv{r:V->Option Int->Option Int->Hp->VK->Prop}(hr:Mg X r)(he:PE X e te)(hl:PO X lo tl)(hu:PO X hi th):PE X (.Subscript e (.Slice lo hi none p2) pos) (UQ r te tl th):=by
 intro pins s σ H Q I h;refine Subscript_ (bP (he pins s σ H _ I h) ?_);rintro v s1 ⟨x,H1,I1,r1,q1⟩;refine wpAny_Slice (bP (hl pins s1 σ H1 _ I1 q1) λvl s2 ⟨l,H2,I2,pl,q2⟩=>bP (hu pins s2 σ H2 _ I2 q2) λvu s3 ⟨u,H3,I3,pu,q3⟩=>?_);rw[evalPart_none];refine a7 ?_;have I4:Inv X pins σ H3 {s3 with heap:=s3.heap.push {cls:=.type "slice",data:=.fields #[vl,vu,.none]}}:=I3.kept (t':=s3.toks) λb ob q=>bC _ q;obtain⟨T,id,hT,ht,hg⟩:=hr pins {s3 with heap:=s3.heap.push {cls:=.type "slice",data:=.fields #[vl,vu,.none]}} σ H3 x v vl vu l u s3.heap.objs.size Q I4 r1 (Heap.IsSliceOf.new ..) pl pu q3;show wpAny (model X.prog X.w) X.A (subscriptTail e (.Slice lo hi none p2) v (.ref s3.heap.objs.size)) (EP X pins σ Q) X.xe {s3 with heap:=s3.heap.push {cls:=.type "slice",data:=.fields #[vl,vu,.none]}};exact tail_any (ops:=[.ref s3.heap.objs.size,v]) ht hT hg (by with_unfolding_all rfl)
def oy(xs:List V)(lo hi:Option Int):List V:=(xs.drop (HT.cj xs.length 0 lo)).take (HT.cj xs.length xs.length hi-HT.cj xs.length 0 lo)
theorem jg(xs:List V)(lo hi:Option Int):(oy xs lo hi).length<=xs.length:=by
 unfold oy;rw[jS,List.length_drop];omega
def Qw(K:PySem.W.Frag):V->Option Int->Option Int->Hp->VK->Prop:=λx lo hi H Q=>∃a xs,x=.ref a/\eJ K H a xs /\
 ¬(HT.cj xs.length 0 lo=0/\HT.cj xs.length xs.length hi=xs.length)/\∀p,H p=none->Q (.ref p) (bw H p (.tup (oy xs lo hi)))
theorem F9:Mg X (Qw X.K):=by
 intro pins s σ H x v vl vu lo hi sl Q I rx hs pl pu h;obtain⟨a,xs,rfl,hx,hw,q⟩:=h;cases rx;obtain⟨ax,r,ht,hz⟩:=I.tuple hx;have bu:ax.toArray.size=xs.length:=by rw[cE];exact r.length.symm
 refine⟨"tuple",_,tf.lookup,ht.typeIs,?_⟩;refine HT.hG ht hs pl pu (by rw[bu];exact hw) ?_ (by rw[bu];exact hz);rw[bu];refine⟨.ref s.heap.objs.size,_,I.laid (t':=s.toks) (o:=.tup (oy xs lo hi)) (λb ob q=>bC _ q) (a6 _) ?_,rfl,q _ (I.bc.fresh (a6 _))⟩;exact⟨d7 (jg xs lo hi) hz,_,(r.drop (HT.cj xs.length 0 lo)).take (HT.cj xs.length xs.length hi-HT.cj xs.length 0 lo),IsTup.new _ _⟩
def Mh(K:PySem.W.Frag):R2:=λx y H Q=>∃a b xs ys,x=.ref a/\y=.ref b/\eJ K H a xs/\eJ K H b ys/\xs≠[]/\xs.length+ys.length<=sizeLine /\
 (ys=[]->Q (.ref a) H)/\(ys≠[]->∀p,H p=none->Q (.ref p) (bw H p (.tup (xs++ys))))
theorem aE.mU{xs:List V}{us:List Value}(r:aE xs us):us=[]↔xs=[]:=by
 cases r with
 | nil=>simp
 | cons _ _=>simp
theorem AB:fR X (binaryOp .Add) (Mh X.K):=by
 intro pins s σ H x y v u Q I rx ry h;obtain⟨a,b,xs,ys,rfl,rfl,ha,hb,hx,hz,q1,q2⟩:=h;cases rx;cases ry;obtain⟨ax,r1,p1,_⟩:=I.tuple ha;obtain⟨xx,r2,p2,_⟩:=I.tuple hb;refine HT.Av p1 p2 (λz=>hx (r1.mU.mp z)) (λz=>⟨.ref a,H,I,rfl,q1 (r2.mU.mp z)⟩) (λz=>?_) (by rw[<- r1.length,<- r2.length];exact hz);refine⟨.ref s.heap.objs.size,_,I.laid (t':=s.toks) (o:=.tup (xs++ys)) (λb ob q=>bC _ q) (a6 _) ?_,rfl,q2 (λw=>z (r2.mU.mpr w)) _ (I.bc.fresh (a6 _))⟩;exact⟨by rw[eW];exact hz,_,r1.append r2,IsTup.new _ _⟩
end
noncomputable def zE(n:Nat)(i:Int):Option Nat:=if 0<=i then (if i<n then some i.toNat else none) else if -(n:Int)<=i then some (i+n).toNat else none
def oA{α:Type}(xs:List α)(i:Int):Option α:=(zE xs.length i).bind λj=>xs[j]?
theorem rA{n:Nat}{i:Int}{j:Nat}(h:zE n i=some j):seqIndex? i n=some j/\j<n/\-(n:Int)<=i/\i<n:=by
 unfold zE at h;by_cases h0:0<=i
 ·rw[aG h0]at h;by_cases h1:i<n
  ·rw[aG h1]at h;have e:i.toNat=j:=cx h;exact⟨by rw[seqIndex_of h0 h1,e],∅,∅,h1⟩
  ·rw[aR h1]at h;cases h
 ·rw[aR h0]at h;by_cases h1:-(n:Int)<=i
  ·rw[aG h1]at h;have e:(i+n).toNat=j:=cx h;exact⟨by rw[seqIndex_neg ∅ h1,e],∅,h1,∅⟩
  ·rw[aR h1]at h;cases h
theorem mV{α:Type}{xs:List α}{i:Int}{v:α}(h:oA xs i=some v):∃j,seqIndex? i xs.length=some j/\xs[j]?=some v/\j<xs.length/\-(xs.length:Int)<=i/\i<xs.length:=by
 unfold oA at h
 cases e:zE xs.length i with
 | none=>rw[e]at h;cases h
 | some j =>
  rw[e]at h;obtain⟨h1,h2,h3,h4⟩:=rA e;exact⟨j,h1,h,h2,h3,h4⟩
noncomputable def rB(b:Expr):Prop:=∀o i,subscripted b false o i=operate [o,i] (getItem o i)
def Mi(X:Cx)(r:R2):Prop :=
 ∀(value dW:Expr)(pins:List (Addr×Obj))(s:Shared)(σ:St)(H:Hp)(x y:V)(v u:Value)(Q:VK),Inv X pins σ H s->RelV x v->RelV y u->r x y H Q ->
  subscripted dW false v u=operate [v,u] (getItem v u)->wpAny (model X.prog X.w) X.A (subscriptTail value dW v u) (EP X pins σ Q) X.xe s
def Jf(X:Cx)(id:String)(r:V->List V->Hp->VK->Prop):Prop :=
 ∀(pins:List (Addr×Obj))(s:Shared)(σ:St)(H:Hp)(x:V)(xs:List V)(v:Value)(us:List Value)(Q:VK),Inv X pins σ H s->RelV x v->aE xs us->r x xs H Q ->
  wpAny (model X.prog X.w) X.A (call (.builtin id) (v::us)) (EP X pins σ Q) X.xe s
section
variable {X:Cx} {a b:Expr} {ta tb:TE} {pos:Pos}
theorem Mj{r:R2}(hr:Mi X r)(ha:PE X a ta)(hb:PE X b tb)(hs:rB b):PE X (.Subscript a b pos) (FN r ta tb):=by
 intro pins s σ H Q I h;exact Subscript_ (FO ha hb I h λv u s2 x y H2 I2 rx ry q=>hr a b pins s2 σ H2 x y v u Q I2 rx ry q (hs _ _))
def Qx(K:PySem.W.Frag):R2:=λx y H Q=>∃p xs i v,x=.ref p/\y=.int i/\d5 K H p xs/\oA xs i=some v/\Q v H
def Qy(K:PySem.W.Frag):R2:=λx y H Q=>∃p xs i v,x=.ref p/\y=.int i/\eJ K H p xs/\oA xs i=some v/\Q v H
def Qz:R2:=λx y H Q=>∃z i c,x=.str z/\y=.int i/\z.length<=sizeLine/\oA z.cps.toList i=some c/\Q (.str ⟨#[c]⟩) H
theorem AD:Mi X (Qx X.K):=by
 intro value dW pins s σ H x y v u Q I rx ry h hs;obtain⟨p,xs,i,z,rfl,rfl,hq,he,q⟩:=h;cases rx;obtain⟨t,rfl⟩:=ry;obtain⟨ax,r,pl,hz⟩:=I.list hq;obtain⟨j,h1,h2,h3,h4,h5⟩:=mV he;obtain⟨w,ew,ui⟩:=r.get h2;have hl:=r.length;have hn:=gE;have fin:EP X pins σ Q w s:=⟨z,H,I,ui,q⟩;by_cases h0:0<=i
 ·have hj:i.toNat=j:=by
   rw[seqIndex_of h0 h5]at h1;exact cx h1
  exact item_listR pl.isList h0 ∅ (by rw[hj];simpa using ew) fin hs
 ·have hj:(i+(ax.toArray.size:Int)).toNat=j:=by
   rw[seqIndex_neg ∅ h4]at h1;rw[cE,<- hl];exact cx h1
  exact subscriptTail_builtinR (x:=w) pl.isList.typeIs slot_list_getitem.lookup
   (wpAny_getItem_list_neg (Q:=λr s'=>r=w/\EP X pins σ Q r s') pl.isList ∅ (by rw[cE]<;>omega) ∅ (by rw[hj];simpa using ew) ⟨rfl,fin⟩) hs
theorem xy:Mi X (Qy X.K):=by
 intro value dW pins s σ H x y v u Q I rx ry h hs;obtain⟨p,xs,i,z,rfl,rfl,hq,he,q⟩:=h;cases rx;obtain⟨t,rfl⟩:=ry;obtain⟨ax,r,pl,hz⟩:=I.tuple hq;obtain⟨j,h1,h2,h3,h4,h5⟩:=mV he;obtain⟨w,ew,ui⟩:=r.get h2;have hl:=r.length;have hn:=gE;have fin:EP X pins σ Q w s:=⟨z,H,I,ui,q⟩
 exact subscriptTail_builtinR (x:=w) pl.typeIs slot_tuple_getitem.lookup
  (getItem_tuple (j:=j) (Q:=λr s'=>r=w/\EP X pins σ Q r s') pl ∅ ∅ (by rw[cE,<- hl];exact h1) (by simpa using ew) ⟨rfl,fin⟩) hs
theorem F_:Mi X Qz:=by
 intro value dW pins s σ H x y v u Q I rx ry h hs;obtain⟨z,i,c,rfl,rfl,hz,he,q⟩:=h;obtain⟨t,rfl⟩:=rx;obtain⟨t',rfl⟩:=ry;obtain⟨j,h1,h2,h3,h4,h5⟩:=mV he;have hl:z.cps.toList.length=z.length:=by simp[Str.length]
 rw[hl]at h1 h4 h5;have hn:=gE
 exact tail_any (typeIs_str s z t) slot_str_getitem.lookup (getItem_str (c:=c) (by
  have e1:decide (i < -(2 ^ 63:Int))=false:=df ∅;have e2:decide (i ≥ 2 ^ 63)=false:=df ∅;rw[e1,e2,Bool.or_false]) (by rw[h1];simpa using h2) ⟨.str ⟨#[c]⟩,H,I.tok _,⟨_,rfl⟩,q⟩) hs
theorem qe(ax:List Value)(n j:Nat)(u:Value):Obj.mapSeq (·.setIfInBounds j u) {cls:=.type "list",data:=.seq ax.toArray n}={cls:=.type "list",data:=.seq (ax.set j u).toArray n}:=by
 simp[Obj.mapSeq]
theorem Inv.lst{pins:List (Addr×Obj)}{σ:St}{H:Hp}{s:Shared}{p:Addr}{xs:List V}(I:Inv X pins σ H s)(h:H p=some (.lst xs)):∃(ax:List Value) (n:Nat),aE xs ax/\s.heap.get? p=some {cls:=.type "list",data:=.seq ax.toArray n}/\xs.length<=sizeLine:=by
 obtain⟨z,ax,n,r,e⟩:=I.bc p _ h;exact⟨ax,n,r,e,z⟩
theorem Inv.Ga{pins:List (Addr×Obj)}{σ:St}{H:Hp}{s:Shared}{p:Addr}{xs ys:List V}{ax its':List Value}{n n':Nat}{f:Obj->Obj}(I:Inv X pins σ H s)(h:H p=some (.lst xs)) (ho:s.heap.get? p=some {cls:=.type "list",data:=.seq ax.toArray n}) (hf:f {cls:=.type "list",data:=.seq ax.toArray n}={cls:=.type "list",data:=.seq its'.toArray n'}) (r:aE ys its') (hz:ys.length<=sizeLine) (t:Nat):Inv X pins σ (bw H p (.lst ys)) {s with heap:=s.heap.update p f,toks:=t}:=by
 have e:(s.heap.update p f).get? p=some {cls:=.type "list",data:=.seq its'.toArray n'}:=by
  rw[Heap.get?_update_self f ho (by rw[hf]<;>rfl),hf]
 refine I.write (x:=p) (e:=p) (by rw[h];trivial) (.inl rfl) (λb u hb q=>(Heap.get?_update_other _ _ (ju hb)).trans q) ⟨_,e⟩ ?_;exact⟨hz,its',n',r,e⟩
def Mk:V->V->V->Hp->(Hp->Prop)->Prop:=λo i v H Q=>∃p xs k j,o=.ref p/\i=.int k/\H p=some (.lst xs)/\zE xs.length k=some j/\Q (bw H p (.lst (xs.set j v)))
theorem xB:FF X Mk:=by
 intro pins s σ H o i v ov iv u Q I ro ri rv h;obtain⟨p,xs,k,j,rfl,rfl,hp,hj,q⟩:=h;cases ro;obtain⟨t,rfl⟩:=ri;obtain⟨ax,n,r,ho,hz⟩:=I.lst hp;obtain⟨h1,h2,h3,h4⟩:=rA hj;have hl:=r.length;have hn:=gE
 have I':Inv X pins σ (bw H p (.lst (xs.set j v))) {s with heap:=s.heap.update p (Obj.mapSeq (·.setIfInBounds j u))} :=
  I.Ga hp ho (qe ax n j u) (r.set rv j) (by rw[z_];exact hz) s.toks
 by_cases h0:0<=k
 ·have hk:k.toNat=j:=by
   rw[seqIndex_of h0 h4]at h1;exact cx h1
  exact PySem.W.ki_setAt ho h0 ∅ (by rw[cE,<- hl];exact h4) (by rw[hk];exact⟨_,I',q⟩)
 ·have hk:(k+(ax.toArray.size:Int)).toNat=j:=by
   rw[seqIndex_neg ∅ h3]at h1;rw[cE,<- hl];exact cx h1
  exact PySem.W.ki_setBack ho ∅ (by rw[cE,<- hl];exact h3) ∅ (by rw[hk];exact⟨_,I',q⟩)
theorem mW(lo hi:Option Int)(n:Nat):(sliceBounds lo hi none n).1=((HT.cj n 0 lo:Nat):Int)/\(sliceBounds lo hi none n).2.1=((HT.cj n n hi:Nat):Int)/\(sliceBounds lo hi none n).2.2=1:=by
 refine⟨?_,?_,rfl⟩
 ·cases lo with
  | none=>simp[sliceBounds,HT.cj]
  | some i =>
   simp only[sliceBounds,HT.cj,Option.getD_none,show(1:Int)>0 by decide,gY];by_cases h:i<0
   ·simp only[h,gY]<;>omega
   ·simp only[h,if_false]<;>omega
 ·cases hi with
  | none=>simp[sliceBounds,HT.cj]
  | some i =>
   simp only[sliceBounds,HT.cj,Option.getD_none,show(1:Int)>0 by decide,gY];by_cases h:i<0
   ·simp only[h,gY]<;>omega
   ·simp only[h,if_false]<;>omega
theorem lI(ax:List Value)(lo hi:Option Int):slicePick ax.toArray lo hi none=((ax.drop (HT.cj ax.length 0 lo)).take (HT.cj ax.length ax.length hi-HT.cj ax.length 0 lo)).toArray:=by
 obtain⟨h1,h2,h3⟩:=mW lo hi ax.toArray.size;unfold slicePick;rw[h1,h2,h3];simp only[sliceRange_one,pick_run,cE]<;>rfl
def QA(K:PySem.W.Frag):V->Option Int->Option Int->Hp->VK->Prop:=λx lo hi H Q=>∃a xs,x=.ref a/\d5 K H a xs/\∀p,H p=none->Q (.ref p) (bw H p (.lst (oy xs lo hi)))
theorem AE:Mg X (QA X.K):=by
 intro pins s σ H x v vl vu lo hi sl Q I rx hs pl pu h;obtain⟨a,xs,rfl,hx,q⟩:=h;cases rx;obtain⟨ax,r,ht,hz⟩:=I.list hx;have bu:=r.length;refine⟨"list",_,slot_list_getitem.lookup,ht.isList.typeIs,?_⟩;refine wpAny_getItem_list_slice ht.isList hs pl pu .none (by simp) ?_ (by rw[cE]<;>omega);rw[lI,<- bu];refine⟨.ref s.heap.objs.size,_,I.laid (t':=s.toks) (o:=.lst (oy xs lo hi)) (λb ob q=>bC _ q) (a6 _) ?_,rfl,q _ (I.bc.fresh (a6 _))⟩;exact⟨d7 (jg xs lo hi) hz,_,0,(r.drop (HT.cj xs.length 0 lo)).take (HT.cj xs.length xs.length hi-HT.cj xs.length 0 lo),dC _ rfl⟩
theorem hU:dU X (.builtin "len") (λxs H Q=>∃p ys,xs=[.ref p]/\(d5 X.K H p ys\/eJ X.K H p ys)/\Q (.int ys.length) H):=by
 intro pins s σ H xs us Q I r h;obtain⟨p,ys,rfl,hq,q⟩:=h;obtain⟨u,rfl,rx⟩:=vals1 r;cases rx;have hn:=gE;rcases hq with hq | hq
 ·obtain⟨ax,r',pl,hz⟩:=I.list hq;have bu:=r'.length;exact Calls.call_len_list pl.isList (by simp only[cE]<;>omega) ⟨.int ys.length,H,I.tok _,⟨s.toks+1,by rw[cE,bu]⟩,q⟩
 ·obtain⟨ax,r',pl,hz⟩:=I.tuple hq;have bu:=r'.length;exact len_tuple pl (by simp only[cE]<;>omega) ⟨.int ys.length,H,I.tok _,⟨s.toks+1,by rw[cE,bu]⟩,q⟩
theorem mX:dU X (.builtin "len") (λxs H Q=>∃z,xs=[.str z]/\z.length<=sizeLine/\Q (.int z.length) H):=by
 intro pins s σ H xs us Q I r h;obtain⟨z,rfl,hz,q⟩:=h;obtain⟨u,rfl,t,rfl⟩:=vals1 r;have hn:=gE;exact len_str ∅ ⟨.int z.length,H,I.tok _,⟨_,rfl⟩,q⟩
theorem mY:dU X (.type "list") (λxs H Q=>∃p ys,xs=[.ref p]/\(d5 X.K H p ys\/eJ X.K H p ys)/\∀l,H l=none->Q (.ref l) (bw H l (.lst ys))):=by
  intro pins s σ H xs us Q I r h;obtain⟨p,ys,rfl,hq,q⟩:=h;obtain⟨u,rfl,rx⟩:=vals1 r;cases rx
  have fin : ∀ (ax : List Value), aE ys ax -> ys.length <= sizeLine -> ∀ (h' : Heap) (c' : Nat), (∀ b o', s.heap.get? b = some o' -> h'.get? b = some o') ->
      h'.get? s.heap.objs.size=some {cls:=.type "list",dict:=none,data:=.seq ax.toArray c',slots:=#[]}->EP X pins σ Q (.ref s.heap.objs.size) {s with heap:=h'}:=λax r' hz h' c' kp e =>
    ⟨.ref s.heap.objs.size,_,I.laid (t':=s.toks) kp (a6 _) (show bh X.prog X.w _ h' _ (.lst ys) from ⟨hz,ax,c',r',e⟩),rfl,q _ (I.bc.fresh (a6 _))⟩
  rcases hq with hq | hq
  · obtain⟨ax,r',pl,hz⟩:=I.list hq;have bu:=r'.length;obtain⟨o,ho,hc,n,hd⟩:=pl.isList;exact call_list_seq p (.inl rfl) ho hc hd (λh' c' kp e=>fin ax r' hz h' c' kp e) (by simp only[cE]<;>omega)
  · obtain⟨ax,r',pl,hz⟩:=I.tuple hq;have bu:=r'.length;obtain⟨o,ho,hc,n,hd⟩:=pl;exact call_list_seq p (.inr rfl) ho hc hd (λh' c' kp e=>fin ax r' hz h' c' kp e) (by simp only[cE]<;>omega)
theorem gr:dU X (.type "tuple") (λxs H Q=>∃p ys,xs=[.ref p]/\((d5 X.K H p ys/\∀l,H l=none->Q (.ref l) (bw H l (.tup ys)))\/(eJ X.K H p ys/\Q (.ref p) H))):=by
 intro pins s σ H xs us Q I r h;obtain⟨p,ys,rfl,h⟩:=h;obtain⟨u,rfl,rx⟩:=vals1 r;cases rx;rcases h with⟨hq,q⟩|⟨hq,q⟩
 ·obtain⟨ax,r',pl,hz⟩:=I.list hq;have bu:=r'.length;refine call_tuple_list pl.isList (λh' kp=>?_) (by simp only[cE]<;>omega);have I1:Inv X pins σ H {s with heap:=h'}:=I.kept (t':=s.toks) kp
  have I2:Inv X pins σ (bw H h'.objs.size (.tup ys)) {s with heap:=h'.push {cls:=.type "tuple",data:=.seq ax.toArray}} :=
   I1.laid (t':=s.toks) (λb o e=>bC _ e) (a6 _) (show bh X.prog X.w _ _ _ (.tup ys) from ⟨hz,ax,r',IsTup.new _ _⟩)
  exact⟨.ref h'.objs.size,_,I2,rfl,q _ (I1.bc.fresh (a6 _))⟩
 ·obtain⟨ax,r',pl,hz⟩:=I.tuple hq;exact call_tuple_same pl ⟨.ref p,H,I,rfl,q⟩
def QB(K:PySem.W.Frag)(T:String)(x:V)(H:Hp):Prop:=match x with
  | .str _=>T = "str"
  | .int _=>T = "int"
  | .ref p => (T = "list" /\ ∃ xs, d5 K H p xs) \/ (T = "tuple" /\ ∃ o, K.lookup p = some o /\ o.cls = .type "tuple" /\ o.dict = none) \/
      (T = "dict" /\ ((∃ak,H p=some (.dK ak))\/∃ak,Rd H p (.dT ak)))\/(T = "set" /\ ∃S n,H p=some (.set S n))
  | _=>False
theorem xC{pins:List (Addr×Obj)}{σ:St}{H:Hp}{s:Shared}{T:String}{x:V}{v:Value}(I:Inv X pins σ H s)(r:RelV x v)(ty:QB X.K T x H):s.TypeIs v T/\∀a,v=.ref a->∃ob,s.heap.get? a=some ob/\ob.dict=none:=by
 cases x with
 | str z =>
  obtain⟨t,rfl⟩:=r;cases (show T = "str" from ty);exact⟨typeIs_str s z t,λ_ e=>nomatch e⟩
 | int i =>
  obtain⟨t,rfl⟩:=r;cases (show T = "int" from ty);exact⟨typeIs_int s i t,λ_ e=>nomatch e⟩
 | ref p =>
  cases r;rcases ty with⟨rfl,xs,hq⟩|⟨rfl,o,hk,hc,hd⟩|⟨rfl,hk⟩|⟨rfl,S,n,hk⟩
  ·obtain⟨ax,_,pl,_⟩:=I.list hq;refine⟨pl.isList.typeIs,λa e=>?_⟩;cases e;obtain⟨o,n,e,c,hd,_⟩:=pl;exact⟨o,e,hd⟩
  ·refine⟨⟨o,I.g7 p o hk,hc⟩,λa e=>?_⟩;cases e;exact⟨o,I.g7 _ o hk,hd⟩
  ·have z:∃o,s.heap.get? p=some o/\o.ExactDict:=by
    rcases hk with⟨ak,hk⟩|⟨ak,hk⟩
    ·obtain⟨_,_,_,_,o,_,_,e,ex,_⟩:=I.bc p _ hk;exact⟨o,e,ex⟩
    ·obtain⟨_,_,_,_,o,_,_,e,ex,_⟩:=xj I.bc hk;exact⟨o,e,ex⟩
   obtain⟨o,e,ex⟩:=z;refine⟨⟨o,e,ex.1⟩,λa e2=>?_⟩;cases e2;exact⟨o,e,ex.2.1⟩
  ·obtain⟨o,_,_,_,e,ex,_⟩:=I.bc p _ hk;refine⟨⟨o,e,ex.1⟩,λa e2=>?_⟩;cases e2;exact⟨o,e,ex.2.1⟩
 | _=>exact False.elim ty
def Ml(K:PySem.W.Frag)(T:String)(r:V->List V->Hp->VK->Prop)(to:TE):TE:=λσ H Q=>to σ H λx H1=>QB K T x H1/\r x [] H1 Q
def QC(K:PySem.W.Frag)(T:String)(r:V->List V->Hp->VK->Prop)(to:TE)(t:TA):TE:=λσ H Q=>to σ H λx H1=>QB K T x H1/\t σ H1 λxs H2=>r x xs H2 Q
variable {o e:Expr} {es:List Expr} {to:TE} {t:TA} {name:Str} {xa hZ:Pos} {T id:String} {r:V->List V->Hp->VK->Prop}
theorem Gb(pa:PlainAttrs T)(slot:Slot T name id) (QD:typeOf (.builtin id)=pure (.type "method_descriptor")) (hm:Jf X id r) (ho:PE X o to) (xD:attributeBase o name X.env (eval o X.env)=eval o X.env:=by rfl) (xE:(xa.endLine==hZ.line)=true:=by rfl):PE X (.Call (.Attribute o name xa) [] [] hZ) (Ml X.K T r to):=by
 intro pins s σ H Q I h;refine wpAny_Call_method0_late xD xE (bP (ho pins s σ H _ I h) ?_);rintro v s1 ⟨x,H1,I1,r1,ty,q1⟩;obtain⟨h1,h2⟩:=xC I1 r1 ty;exact⟨T,id,pa,slot,QD,h1,h2,Calls.callWith_builtin rfl (PySem.evalArgs_none (hm pins s1 σ H1 x [] v [] Q I1 r1 .nil q1))⟩
theorem rC (pa : PlainAttrs T) (slot : Slot T name id) (QD : typeOf (.builtin id) = pure (.type "method_descriptor")) (hm : Jf X id r) (ho : PE X o to) (ha : PA X (e :: es) t)
    (xD:attributeBase o name X.env (eval o X.env)=eval o X.env:=by rfl)
    (oB:((backTo hZ (starEach (e::es) X.env)).all (λx=>!x.1)&&(backToKw hZ (keywordEach [] X.env)).all (λx=>x.1.isSome)
      && decide ((e::es).length+([]:List Keyword).length+(if ([]:List Keyword).isEmpty then 0 else 1)<30))=true:=by rfl)
    (xE:(xa.endLine==hZ.line)=true:=by rfl) (hs:starEach (e::es) X.env=(false,eval e X.env)::starEach es X.env:=by rfl) (Gd:(backTo hZ (starEach es X.env)).any (·.1)=false:=by rfl) :
    PE X (.Call (.Attribute o name xa) (e::es) [] hZ) (QC X.K T r to t):=by
  intro pins s σ H Q I h;refine wpAny_Call_method_late xD oB xE rfl (bP (ho pins s σ H _ I h) ?_);rintro v s1 ⟨x,H1,I1,r1,ty,q1⟩;obtain⟨h1,h2⟩:=xC I1 r1 ty;refine⟨T,id,pa,slot,QD,h1,h2,?_⟩;have hA:=ha hZ pins s1 σ H1 _ I1 q1;rw[hs]at hA⊢;refine Calls.callWith_builtin (by show(false||(backTo hZ (starEach es X.env)).any (·.1))=false;rw[Gd]<;>rfl) (Calls.evalArgs_plain ?_);exact bP hA λus s2 ⟨vs,H2,I2,r2,q2⟩=>hm pins s2 σ H2 x vs v us Q I2 r1 r2 q2
end
def UR(X:Cx)(id:String)(r:V->List V->Hp->VK->Prop):Prop :=
 ∀(pins:List (Addr×Obj))(s:Shared)(σ:St)(H:Hp)(x:V)(xs:List V)(v:Value)(us:List Value)(Q:VK),Inv X pins σ H s->RelV x v->aE xs us->r x xs H Q ->
  wpAny (model X.prog X.w) X.A (call (.builtin id) (v::us)) (EP X pins σ Q) X.xe s
theorem aE.one{x:V}{us:List Value}(h:aE [x] us):∃u,us=[u]/\RelV x u:=by
 cases h with
 | cons r t=>cases t;exact⟨_,rfl,r⟩
theorem aE.two{x y:V}{us:List Value}(h:aE [x,y] us):∃u v,us=[u,v]/\RelV x u/\RelV y v:=by
 cases h with
 | cons r t=>obtain⟨v,rfl,q⟩:=aE.one t;exact⟨_,v,rfl,r,q⟩
theorem aE.zero:∀{us:List Value},aE [] us->us=[]
 | _,.nil=>rfl
theorem aE.dropLast{xs:List V}{us:List Value}(h:aE xs us):aE xs.dropLast us.dropLast:=by
 induction h with
 | nil=>exact .nil
 | cons r t ih =>
  cases t with
  | nil=>exact .nil
  | cons q t'=>exact .cons r ih
theorem aE.eraseIdx:∀{xs:List V}{us:List Value}(i:Nat),aE xs us->aE (xs.eraseIdx i) (us.eraseIdx i)
 | _,_,_,.nil=>.nil
 | _,_,0,.cons _ t=>t
 | _,_,i+1,.cons r t=>.cons r (aE.eraseIdx i t)
theorem aE.reverse{xs:List V}{us:List Value}(h:aE xs us):aE xs.reverse us.reverse:=by
 induction h with
 | nil=>exact .nil
 | cons r t ih=>rw[List.reverse_cons,List.reverse_cons];exact aE.append ih (.cons r .nil)
theorem aE.rep{xs:List V}{us:List Value}(h:aE xs us):∀k:Nat,aE (List.replicate k xs).flatten (List.replicate k us).flatten
 | 0=>.nil
 | k+1=>by
  rw[tD,tD,vc,vc];exact aE.append h (aE.rep h k)
theorem foldl_rep(ax:List Value):∀(k:Nat)(aB:List Value),List.foldl (λx1 x2=>x1++x2) aB.toArray (List.replicate k ax.toArray)=(aB++(List.replicate k ax).flatten).toArray
 | 0,aB=>by simp
 | k+1,aB=>by
  have e:aB.toArray++ax.toArray=(aB++ax).toArray:=by simp
  have e2:(aB++ax)++(List.replicate k ax).flatten=aB++(List.replicate (k+1) ax).flatten:=by
   rw[tD,vc,pR]
  rw[<- e2,<- foldl_rep ax k (aB++ax),<- e,tD,List.foldl_cons]
section
variable {X:Cx} {pins:List (Addr×Obj)} {σ:St} {H:Hp} {s:Shared} {l b:Addr} {xs ys zs:List V}
theorem Inv.QE{ax its':List Value}{n:Nat}{f:Array Value->Array Value}{t':Nat}(I:Inv X pins σ H s)(hH:H l=some (.lst xs)) (e:s.heap.get? l=some {cls:=.type "list",data:=.seq ax.toArray n}) (hf:f ax.toArray=its'.toArray) (hv:aE ys its') (hz:ys.length<=sizeLine):Inv X pins σ (bw H l (.lst ys)) {s with heap:=s.heap.update l (Obj.mapSeq f),toks:=t'}:=by
 have q:=PySem.IsL.update e f;rw[hf]at q;refine I.write (x:=l) (e:=l) (by rw[hH];exact trivial) (.inl rfl) (λb' u hb hu=>(Heap.get?_update_other s.heap (Obj.mapSeq f) (ju hb)).trans hu) ⟨_,q⟩ ?_;exact⟨hz,its',_,hv,q⟩
theorem Inv.Mm{ax:List Value}{t':Nat}(I:Inv X pins σ H s)(hv:aE ys ax)(hz:ys.length<=sizeLine):Inv X pins σ (bw H s.heap.objs.size (.lst ys)) {s with heap:=s.heap.push {cls:=.type "list",data:=.seq ax.toArray},toks:=t'} :=
 I.laid (λ_ _ q=>bC _ q) (a6 _) ⟨hz,ax,0,hv,dC _ rfl⟩
theorem Inv.fresh(I:Inv X pins σ H s):H s.heap.objs.size=none:=I.bc.fresh (a6 _)
theorem Inv.AF(I:Inv X pins σ H s)(hH:H l=some (.lst xs)):xs.length<=sizeLine/\∃(ax:List Value) (n:Nat),aE xs ax/\xs.length=ax.length/\s.heap.get? l=some {cls:=.type "list",data:=.seq ax.toArray n}:=by
 obtain⟨z,ax,n,r,e⟩:=I.bc l _ hH;exact⟨z,ax,n,r,r.length,e⟩
theorem xF{n:Nat}(h:n<=sizeLine):Builtin.List.listTooLong n=false:=by
 unfold Builtin.List.listTooLong;exact df ∅
end
section
variable {X:Cx}
def AG:V->List V->Hp->VK->Prop:=λx vs H Q=>∃l xs y,x=.ref l/\vs=[y]/\H l=some (.lst xs)/\xs.length<sizeLine/\Q .br (bw H l (.lst (xs++[y])))
theorem l9:UR X "list.append" AG:=by
 intro pins s σ H x vs v us Q I rx rv h;obtain⟨l,xs,y,rfl,rfl,hH,hz,q⟩:=h;cases rx;obtain⟨u,rfl,ru⟩:=rv.one;obtain⟨z,ax,n,r,hl,e⟩:=I.AF hH;refine jX F.slot_list_append ⟨_,e,rfl⟩ F.entry_list_append (F.args_list_append_2 _ _) (PySem.list_append l ax.toArray n u (by rw[cE];omega)) ⟨e,?_⟩;refine⟨.br,_,I.QE (its':=ax++[u]) hH e (by simp) (r.append (.cons ru .nil)) ?_,rfl,q⟩;rw[eW,List.length_singleton];omega
def QF:R2:=λx y H Q=>∃l b xs zs,x=.ref l/\y=.ref b/\H l=some (.lst xs)/\H b=some (.lst zs)/\xs.length+zs.length<=sizeLine/\∀p,H p=none->Q (.ref p) (bw H p (.lst (xs++zs)))
theorem Ge:fR X (binaryOp .Add) QF:=by
 intro pins s σ H x y v u Q I rx ry h;obtain⟨l,b,xs,zs,rfl,rfl,hH,hB,hz,q⟩:=h;cases rx;cases ry;obtain⟨z,ax,n,r,hl,e⟩:=I.AF hH;obtain⟨z2,xx,n2,r2,QG,e2⟩:=I.AF hB;refine PySem.P.add_list e e2 ?_ (by rw[cE,cE];omega);have ea:ax.toArray++xx.toArray=(ax++xx).toArray:=by simp
 rw[ea];exact⟨.ref _,_,I.Mm (t':=s.toks) (r.append r2) (by rw[eW];omega),rfl,q _ I.fresh⟩
def QH:R2:=λx y H Q=>∃l k xs,x=.ref l/\y=.int k/\H l=some (.lst xs)/\-(2 ^ 63)<=k/\k<2 ^ 63/\xs.length*k.toNat<=sizeLine /\
 ∀p,H p=none->Q (.ref p) (bw H p (.lst (List.replicate k.toNat xs).flatten))
theorem mZ{α:Type}(xs:List α)(k:Nat):(List.replicate k xs).flatten.length=k*xs.length:=by
 induction k with
 | zero=>simp
 | succ k ih=>rw[tD,vc,eW,ih,Nat.succ_mul,Nat.add_comm]
theorem Gf:fR X (binaryOp .Mult) QH:=by
 intro pins s σ H x y v u Q I rx ry h;obtain⟨l,k,xs,rfl,rfl,hH,h1,h2,hz,q⟩:=h;cases rx;obtain⟨t,rfl⟩:=ry;obtain⟨z,ax,n,r,hl,e⟩:=I.AF hH;have bu:ax.toArray.size*k.toNat<=sizeLine:=by rw[cE,<- hl];exact hz
 have xG:¬ax.toArray.size*k.toNat>(2 ^ 63-1) / 8:=by
  have:(sizeLine:Nat)<=(2 ^ 63-1) / 8:=by decide
  omega
 have QI:¬(!Builtin.List.listFitsIndex k)=true:=by
  rw[fitsIndex_both h1 h2];exact aD
 have Mn:¬Builtin.List.listTooLong (ax.toArray.size*k.toNat)=true:=by
  rw[xF bu];exact aD
 have lJ:List.foldl (λx1 x2=>x1++x2) #[] (List.replicate (if ax.toArray.isEmpty=true then 0 else k.toNat) ax.toArray)=(List.replicate k.toNat ax).flatten.toArray:=by
  have f0:∀m:Nat,List.foldl (λx1 x2=>x1++x2) #[] (List.replicate m ax.toArray)=(List.replicate m ax).flatten.toArray:=λm=>by
   have:=foldl_rep ax m [];rw[Aa]at this;exact this
  rw[f0]
  cases ax with
  | nil=>simp
  | cons a r'=>rw[aR (by simp)]
 refine wpAny_binaryOp_repeat_ref (T := "list") (U := "int") (by decide) ⟨_,e,rfl⟩ (λs'=>typeIs_int s' k t) noFill_list_mul F.fills_int_mul Ab repeat_list F.slot_int_index.lookup
  (jX Ab (typeIs_int s k t) F.entry_int_rmul (F.args_int_rmul_2 _ _) (int___rmul___int_list k t l ax.toArray n)
   ⟨e,rfl,⟨_,e,rfl⟩,jX F.slot_list_mul ⟨_,e,rfl⟩ F.entry_list_mul (F.args_list_mul_2 _ _) (AutoListH.list___mul___list_int_3 l ax.toArray n k t QI xG Mn) ⟨e,?_⟩⟩)
 rw[lJ];exact⟨.ref _,_,I.Mm (t':=s.toks) (r.rep k.toNat) (by rw[mZ,Nat.mul_comm];exact hz),rfl,q _ I.fresh⟩
end
end L2
namespace S5
open PySem PySem.W PySem.Calls PyProof.Rows
theorem jA{P:Params}{h:Heap}:∀(ns:List Int)(vs:List Value),WellAll P h vs (ns.map WData.int)->IntsAre vs ns:=by
 intro ns
 induction ns with
 | nil =>
  intro vs w;rw[tQ]at w;cases w;exact .nil
 | cons n ns ih =>
  intro vs w;rw[cA]at w
  cases w with
  | cons a b =>
   cases a;exact .cons _ _ (ih _ b)
theorem um{l:OpenLaw}{n:Nat}(hn:l.most=some n){P:Params}{h:Heap}{args:List WData}{vals:List Value}(AH:l.row.toRowW.claim.pre args=true)(DR:WellAll P h vals args):∃a vs ns,vals=[Value.ref a]/\args=[WData.list (ns.map WData.int)]/\h.get? a=some {cls:=.type "list",data:=.seq vs.toArray}/\IntsAre vs ns/\ns.length<=n:=by
 have US:WShape.hasAll [] args [.list .int]=true:=(pre_splitW AH).1;have hc:l.pre.holds [] {args:=args}=true:=(pre_splitW AH).2;obtain⟨d,r,rfl,h1,h2⟩:=hasAllW_cons US;obtain rfl:=hasAllW_nil h2;obtain⟨xs,rfl,h3⟩:=hasW_list h1;obtain⟨ns,rfl⟩:=items_int h3
 have bu:ns.length<=n:=by
  unfold OpenLaw.pre at hc
  have h4:(WTm.not (.lt (.lit (.int (n:Int))) (.len (.arg 0)))).holds [] {args:=[.list (ns.map .int)]}=true:=by
   have h4:=(holds_andW hc).1;rw[hn]at h4;exact h4
  have h5:=condW_of h4 (w_not (w_lt w_lit (w_len_list (w_arg rfl))));rw[aV]at h5;refine Nat.le_of_not_lt λq=>?_;have q':(n:Int)<((ns.length:Nat):Int):=∅
  first
   | (rw[gX q']at h5;exact absurd h5 (by decide))
   | (simp at h5;omega)
 cases DR with
 | cons w1 w2 =>
  cases w2
  cases w1 with
  | list ho xr=>exact⟨_,_,ns,rfl,rfl,ho,jA ns _ xr,bu⟩
theorem uo(l:OpenLaw)(args:List WData):l.row.toRowW.claim.post args (.bool true) args=true :=
 postW_of (r:=l.row.toRowW) (X:=(true==true))
  (show WShape.has [] (.bool true) .bool=true by first | rfl | decide | simp[WShape.has,WShape.arms,WShape.armsAll])
  (show(WTm.eq .res (.lit (.bool true))).value [] {args:=args,res:=some (.bool true),after:=args}=some (.bool (true==true)) from w_eq_bool (w_res rfl) w_lit) rfl
theorem oC {l : OpenLaw} {n : Nat} {q : Program} {loose : List Str} {XP : (Str -> Option Value) -> Heap -> Prop} {YP : World -> Heap -> Prop} {d : DefRec}
    (hn:l.most=some n) (Mo:d.params.defaults=[])
    (call:∀(w:World)(dg bt:Shared)(mg mb:Str->Option Value)(fa:Addr)(o:Obj)(pm cd doc:Value)(a:Addr)(vs:List Value)(ns:List Int),
      Ground q loose [] XP w dg mg mb bt.heap->YP w bt.heap ->
      bt.heap.get? fa=some o->o.data=.func (docDef d.name d.params d.body d.scope pm cd doc)->bt.heap.CodeRec cd d.name->mg d.name=some (.ref fa) ->
      bt.heap.get? a=some {cls:=.type "list",data:=.seq vs.toArray}->IntsAre vs ns->ns.length<=n->bt.gens=#[] ->
      codeAny (model l.prog w) callerA (.call (.ref fa) ⟨[.ref a],[]⟩) (λr s'=>r=.ok (.ret (.bool true))/\OldK bt.heap s'.heap/\s'.os=bt.os/\AllBare s'.gens) bt) :
    WalkO q loose XP YP l.row.toRowW d [] (λf vs=>PySem.call f vs):=by
  intro w dg bt mg mb G Y fa o pm cd doc dV kV ho hd zD hD Gg hg args vals as AH UT Xs DR Xu;obtain rfl:dV=.none:=Dflts.none hD Mo;obtain rfl:kV=.none:=Dflts.noKw hD;obtain⟨a,vs,ns,rfl,rfl,Gh,hints,bu⟩:=um hn AH DR;refine enter_call (codeAny_mono (call w dg bt mg mb fa o pm cd doc a vs ns G Y ho (fd_plain hd) zD Gg Gh hints bu hg) λr s' hq=>?_);obtain⟨rfl,h2,h3,h4⟩:=hq;exact⟨.inl ⟨.bool true,.bool true,[],rfl,λ_=>rfl,.bool true,uo l _,λ_=>⟨List.Pairwise.nil,λ_ hm=>(nomatch hm)⟩⟩,h2,h3,h4⟩
end S5
namespace L2
open PySem PySem.Spec PyProof.Rows
theorem l_:∀{vs:List Value}{ns:List Int},IntsAre vs ns->aE (ns.map V.int) vs
 | _,_,.nil=>.nil
 | _,_,.cons n t h=>.cons ⟨t,rfl⟩ (l_ h)
noncomputable def AI(H:Hp):Prop:=∀b,H b=none\/∃o xs,H b=some (.eX o (.lst xs))
theorem xH{P:Program}{w:World}{K:PySem.W.Frag}{mg mb:Str->Option Value}{CX:ue}{k:Nat}{fa a:Addr}{fd:FuncData}{x:Str}{sp:Sp}{bt:Shared}{vs:List Value}{ns:List Int}(KX:K.In bt.heap)(j9:bt.heap.Ns mainGlobals mg)(hb:bt.heap.Ns builtinsNs mb) (UU:∀x:Str,x≠ "__name__" -> mb x=bootBuiltins x) (QJ:bt.heap.NoLimit) (hg:bt.gens=#[]) (ha:bt.heap.get? a=some {cls:=.type "list",data:=.seq vs.toArray}) (hi:IntsAre vs ns) (hl:ns.length<=sizeLine) (hr:gG k callerA) (F:∀base:Heap,K.In base->base.Ns mainGlobals mg->fu P w K mg base CX k fa fd [x] sp) (Mp:∀(s:Shared)(u:Value),BindsTo s fd ⟨[u],[]⟩ [(x,u)]) (DO:∀H:Hp,AI H->d5 K H a (ns.map V.int)->sp [.ref a] H (λv _=>v=.bl true) λ_ _ _=>False) (QK:∀H e s',CX [] H bt (λ_ _ _=>False) e s'->False):codeAny (model P w) callerA (.call (.ref fa) ⟨[.ref a],[]⟩) (λr s'=>r=.ok (.ret (.bool true))/\OldK bt.heap s'.heap/\s'.os=bt.os/\AllBare s'.gens) bt:=by
  have rv:=l_ hi;have QL:=hi.length
  have core : ∀ H : Hp, AI H -> d5 K H a (ns.map V.int) -> gm P w H bt.heap -> (∀ b, H b ≠ none -> b = a) -> (H a ≠ none -> K.lookup a = none) ->
      codeAny (model P w) callerA (.call (.ref fa) ⟨[.ref a],[]⟩) (λr s'=>r=.ok (.ret (.bool true))/\OldK bt.heap s'.heap/\s'.os=bt.os/\AllBare s'.gens) bt:=by
    intro H hO hS bc hA hK;have fT:∀{b:Addr}{o:Obj},bt.heap.get? b=some o->H b=none->(mJ bt.heap H).get? b=some o:=λe n=>wC e n
    have L7:∀{b:Addr}{o:Obj}{es:Array DictEntry}{ep:Nat},bt.heap.get? b=some o->o.data=.dict es ep->H b=none:=λ{b o es ep} e d=>by
      cases q:H b with
      | none=>rfl
      | some u =>
        have e':b=a:=hA b (by rw[q];simp);subst e';rw[ha]at e;cases e;have d':Data.seq vs.toArray _=Data.dict es ep:=d;cases d'
    have OY:∀{b:Addr}{m:Str->Option Value},bt.heap.Ns b m->(mJ bt.heap H).Ns b m:=λ{b m} ⟨o,es,ep,e,d,r⟩=>⟨o,es,ep,fT e (L7 e d),d,r⟩
    have S6:K.In (mJ bt.heap H):=λb o e=>fT (KX b o e) (by
      cases q:H b with
      | none=>rfl
      | some u =>
        have e':b=a:=hA b (by rw[q];simp);subst e';rw[hK (by rw[q];simp)]at e;cases e)
    have hM:Mod K mg (mJ bt.heap H):=⟨S6,OY j9,⟨mb,OY hb,UU⟩,let ⟨mc,h1,h2⟩:=QJ;⟨mc,OY h1,h2⟩⟩;have e0:w_ P w K mg (mJ bt.heap H) callerA [] bt H:=⟨rfl,hM,λb o e=>Ac e,Nat.le_of_eq (tX _ _),trivial,λb hb=>absurd (show b∈([]:List Addr) from hb) (by simp),bc,.of_eq hg⟩;refine codeAny_mono ((F _ S6 (OY j9)).run callerA [] bt H ⟨[.ref a],[]⟩ [.ref a] [.ref a] _ _ hr e0 (Mp bt (.ref a)) (.cons rfl .nil) (DO H hO hS)) λr s' h=>?_
    cases r with
    | error e=>exact(QK H e s' h).elim
    | ok fl =>
      cases fl with
      | next=>exact False.elim h
      | brk=>exact False.elim h
      | cont=>exact False.elim h
      | ret u =>
        obtain⟨v,H',os,bare,un,QM,r',q⟩:=h;have q':v=.bl true:=q;subst q';obtain rfl:u=Value.bool true:=r';refine⟨rfl,OldK.of_keep λb o e=>?_,os,bare⟩
        cases q:H b with
        | none=>exact un.keep b o e q (by intro z;exact absurd (show b∈([]:List Addr) from z) (by simp)) (by simp)
        | some u =>
          rcases hO b with z | ⟨ob,xs,z⟩
          · rw[q]at z;cases z
          · have z2:=un.mI b ob _ z;obtain⟨e1,_⟩:=bc b _ z;obtain⟨e2,_⟩:=QM b _ z2;rw[e]at e1;cases e1;exact e2
  cases hk:K.lookup a with
  | some o =>
    have e:=KX a o hk;rw[ha]at e;cases e;refine core (λ_=>none) (λ_=>.inl rfl) (.inr ⟨_,vs.toArray,_,hk,rfl,rfl,rfl,by rw[cE,QL];exact hl,by simpa using rv⟩) (λb u z=>by have z':(none:Option HO)=some u:=z;cases z') (λb z=>absurd rfl z) λz=>absurd rfl z
  | none =>
    refine core (λb=>if b=a then some (.eX {cls:=.type "list",data:=.seq vs.toArray} (.lst (ns.map V.int))) else none) (λb=>?_) (.inl (.inr ⟨{cls:=.type "list",data:=.seq vs.toArray},aG rfl⟩)) (λb u z=>?_) (λb z=>?_) λ_=>hk
    · by_cases hb:b=a
      · exact .inr ⟨_,_,aG hb⟩
      · exact .inl (aR hb)
    · by_cases hb:b=a
      · have z':=(aG hb).symm.trans z;cases z';subst hb;exact⟨ha,by rw[aV];exact hl,vs,_,rv,ha⟩
      · have z':=(aR hb).symm.trans z;cases z'
    · by_cases hb:b=a
      · exact hb
      · exact absurd (aR hb) z
theorem AJ {l : PySem.W.OpenLaw} {n k : Nat} {q : Program} {loose : List Str} {XP : (Str -> Option Value) -> Heap -> Prop} {YP : World -> Heap -> Prop} {d : DefRec} {K : Params -> PySem.W.Frag} {CX : World -> ue} {sp : World -> Sp} {x : Str}
    (hn:l.most=some n) (UW:n<=sizeLine) (Mo:d.params.defaults=[]) (hr:gG k callerA)
    (hY:∀(w:World)(h:Heap),YP w h->(K w.params).In h)
    (F:∀(w:World)(mg:Str->Option Value)(fa:Addr)(h:Heap),(K w.params).In h->h.Ns mainGlobals mg->mg d.name=some (.ref fa) ->
      ∃fd:FuncData,(∀(s:Shared)(u:Value),BindsTo s fd ⟨[u],[]⟩ [(x,u)]) /\
        ∀base:Heap,(K w.params).In base->base.Ns mainGlobals mg->fu l.prog w (K w.params) mg base (CX w) k fa fd [x] (sp w))
    (DO:∀(w:World)(H:Hp)(a:Addr)(ns:List Int),ns.length<=n->AI H->d5 (K w.params) H a (ns.map V.int)->sp w [.ref a] H (λv _=>v=.bl true) λ_ _ _=>False)
    (QK:∀(w:World)(H:Hp)(s:Shared)(e:Value)(s':Shared),CX w [] H s (λ_ _ _=>False) e s'->False) :
    PySem.W.WalkO q loose XP YP l.row.toRowW d [] (λf vs=>PySem.call f vs):=by
  refine S5.oC hn Mo λw dg bt mg mb fa o pm cd doc a vs ns G Y ho hd zD Gg Gh hints bu hg=>?_;have KX:=hY w _ Y;obtain⟨fd,hb,hF⟩:=F w mg fa _ KX G.T.g Gg;exact xH KX G.T.g G.T.b G.T.builtins G.T.nolimit hg Gh hints (d7 bu UW) hr hF hb (λH hO hS=>DO w H a ns bu hO hS) λH e s'=>QK w H bt e s'
abbrev OZ:ue:=λ_ _ _ _ _ _=>False
abbrev E0:XK:=λ_ _ _=>False
structure S7 (K:PySem.W.Frag) (x qual:Str) (st:Stmt) (f:Addr) (fd:FuncData):Prop where
 ex:∃(oc:Value) (od:Option Addr) (kV doc pm:Value) (an:Option Addr) (oo ct:Value) (oq:Array (Option Value)),
  fd=PySem.W.fnOf x qual (fQ st) (cB st) (aZ st) .none kV doc pm an oo ct/\K.lookup f=some ⟨oc,od,.func fd,oq⟩/\PySem.W.codeIn K oo qual=true
 kp:PySem.W.keepIn K (.ref f)=true
section
variable {P:Program} {w:World} {K:PySem.W.Frag} {mg:Str->Option Value} {base:Heap}
theorem xI{x qual:Str}{st:Stmt}{f:Addr}{oc:Value}{od an:Option Addr}{oq:Array (Option Value)}{kV doc pm oo ct:Value}(l:K.lookup f=some ⟨oc,od,.func (PySem.W.fnOf x qual (fQ st) (cB st) (aZ st) .none kV doc pm an oo ct),oq⟩)(c:PySem.W.codeIn K oo qual=true)(k:PySem.W.keepIn K (.ref f)=true):S7 K x qual st f (PySem.W.fnOf x qual (fQ st) (cB st) (aZ st) .none kV doc pm an oo ct):=⟨⟨oc,od,kV,doc,pm,an,oo,ct,oq,rfl,l,c⟩,k⟩
end
end L2
end
section
namespace L2
open PySem PySem.Spec PyProof.Rows
section
variable {prog:Program} {w:World} {A:Around} {R:Result->Shared->Prop} {s:Shared}
theorem m7 {elt iM aC : Expr} {ifs : List Expr} {scope : Scope} {pos : Pos} {it aB : Value} {env : Env} (I : Nat -> Shared -> Prop)
    (wW:∀n s,I n s->wpAny (model prog w) A (pyNext it) (λr bt=>match r with
      | none=>R (.ok .next) bt
      | some v => wpAny (model prog w) A (letOwnedTupleGo iM it v) (fun _ DS => wpAny (model prog w) A (assign iM env v) (fun _ mO =>
          wpAny (model prog w) A (forIn ifs true λc r=>if r=true then do let ok <- isTrue c env (eval c env);pure (ForInStep.yield ok) else pure (ForInStep.yield r)) (λok ow =>
            if ok=true then wpAny (model prog w) A (eval elt env) (λx uq =>
              wpAny (model prog w) A (call (.builtin "list.append") [aB,x]) (λ_ xJ=>∃m,m<n/\I m xJ) (λ_ _=>False) uq) (λ_ _=>False) ow
            else ∃m,m<n/\I m ow) (λ_ _=>False) mO) (λ_ _=>False) DS) (λ_ _=>False) bt) (λ_ _=>False) s)
    (n:Nat) (h:I n s):codeAny (model prog w) A (.compLoop (.ListComp elt [⟨iM,aC,ifs,0⟩] scope pos) 0 it aB env) R s:=by
  refine codeAny_loop rfl I (λn s hI=>?_) n h;show wpAny _ A ((compTurn (.ListComp elt [⟨iM,aC,ifs,0⟩] scope pos) 0 it aB env).onRaise (λx=>do noteFrame x env;theTreesLotGoes x)) _ _ s;refine wpAny_noted ?_;rw[compTurn_list];refine ah (wpAny_standAt (ah (iJ (wW n s hI) (λr bt uk=>?_) λ_ _ h'=>h'.elim)))
  cases r with
  | none=>exact a7 uk
  | some v =>
    refine ah (iJ uk (λ_ DS Mq=>?_) λ_ _ h'=>h'.elim);refine ah (iJ Mq (λ_ mO xn=>ah (iJ xn (λok ow Ar=>?_) λ_ _ h'=>h'.elim)) λ_ _ h'=>h'.elim)
    cases ok with
    | false=>exact a7 ⟨rfl,Ar⟩
    | true =>
      exact ah (ah (iJ Ar (λx uq QN=>ah (iJ QN (λ_ xJ QO=>a7 (a7 ⟨rfl,QO⟩)) λ_ _ h'=>h'.elim)) λ_ _ h'=>h'.elim))
end
theorem bR{x:Str}:∀(names:List (Str×NameKind))(n:Nat)(aB:List (Str×Addr)),(x,NameKind.cell)∉names->(cellsFrom n names aB).lookup x=aB.lookup x
 | [],_,_,_=>rfl
 | (y,k)::r,n,aB,h=>by
  unfold cellsFrom;split
  ·rename_i hk
   have hk:k=.cell:=eq_of_beq hk;subst hk;rw[bR r (n+1) _ (λz=>h (du _ z)),d6];have:(x==y)=false:=lE.mpr λz=>h (by subst z;exact cD);rw[this]
  ·exact bR r n aB λz=>h (du _ z)
theorem eC{x:Str}{c:Addr}:∀(names:List (Str×NameKind))(n:Nat)(aB:List (Str×Addr)),(x,NameKind.cell)∈names->(cellsFrom n names aB).lookup x=some c->n<=c
 | [],_,_,h,_=>by cases h
 | (y,k)::r,n,aB,h,e=>by
  unfold cellsFrom at e;split at e
  ·by_cases hr:(x,NameKind.cell)∈r
   ·exact vd (eC r (n+1) _ hr e)
   ·rw[bR r (n+1) _ hr,d6]at e
    have:x=y:=by
     rcases bF.mp h with z | z
     ·exact(Prod.mk.inj z).1
     ·exact absurd z hr
    subst this;simp at e;exact Nat.le_of_eq e
  ·rename_i hk
   rcases bF.mp h with z | z
   ·exact absurd (by rw[<- (Prod.mk.inj z).2];rfl) hk
   ·exact eC r n aB z e
theorem eD{x:Str}:∀(names:List (Str×NameKind))(n:Nat)(aB:List (Str×Addr)),(x,NameKind.cell)∈names->∃c,(cellsFrom n names aB).lookup x=some c
 | [],_,_,h=>by cases h
 | (y,k)::r,n,aB,h=>by
  unfold cellsFrom;split
  ·by_cases hr:(x,NameKind.cell)∈r
   ·exact eD r (n+1) _ hr
   ·rw[bR r (n+1) _ hr,d6]
    have:x=y:=by
     rcases bF.mp h with z | z
     ·exact(Prod.mk.inj z).1
     ·exact absurd z hr
    subst this;simp
  ·rename_i hk
   rcases bF.mp h with z | z
   ·exact absurd (by rw[<- (Prod.mk.inj z).2];rfl) hk
   ·exact eD r n aB z
theorem eE:∀(names:List (Str×NameKind))(n:Nat)(aB:List (Str×Addr)),(∀x c,aB.lookup x=some c->c<n)->(∀x y c,aB.lookup x=some c->aB.lookup y=some c->x=y)->∀x y c,(cellsFrom n names aB).lookup x=some c->(cellsFrom n names aB).lookup y=some c->x=y
 | [],_,_,_,h=>h
 | (z,k)::r,n,aB,hb,h=>by
  unfold cellsFrom;split
  ·refine eE r (n+1) _ (λx c e=>?_) (λx y c e1 e2=>?_)
   ·rw[d6]at e;split at e
    ·cases e;exact tJ _
    ·exact zW (hb x c e)
   ·rw[d6]at e1 e2;split at e1
    ·rename_i hx
     cases e1;split at e2
     ·rename_i hy
      rw[eq_of_beq hx,eq_of_beq hy]
     ·exact absurd (hb y _ e2) (jW _)
    ·split at e2
     ·cases e2;exact absurd (hb x _ e1) (jW _)
     ·exact h x y c e1 e2
  ·exact eE r n aB hb h
theorem dX{x:Str}{c:Addr}:∀(names:List (Str×NameKind))(h:Heap)(aB:List (Str×Addr)),(cellsFrom h.objs.size names aB).lookup x=some c->aB.lookup x=some c\/(h.objs.size<=c/\(pushCells h names).IsCell c none)
 | [],_,_,e=>.inl e
 | (z,k)::r,h,aB,e=>by
  unfold cellsFrom at e;unfold pushCells;split at e
  ·rename_i hk
   rw[aG hk];have e':(cellsFrom (h.push {cls:=.type "cell",data:=.cell none}).objs.size r ((z,h.objs.size)::aB)).lookup x=some c:=by rw[jV];exact e
   rcases dX r (h.push {cls:=.type "cell",data:=.cell none}) _ e' with q | ⟨q1,q2⟩
   ·rw[d6]at q;split at q
    ·cases q;exact .inr ⟨a6 _,_,pushCells_keeps _ _ _ _ (dC _ rfl),rfl⟩
    ·exact .inl q
   ·rw[jV]at q1;exact .inr ⟨vd q1,q2⟩
  ·rename_i hk
   rw[aR hk];exact dX r h aB e
theorem m8 {M : Model} {A : Around} {E : Value -> Shared -> Prop} {s : Shared} {scope : Scope} {globals : Addr} {cl : List (Str × Addr)} {qual : Str} {outer : Env} {Q : Env -> Shared -> Prop}
    (hQ:Q {scope:=scope,locals:=s.heap.objs.size,globals:=globals,cells:=cellsFrom (s.heap.objs.size+1) scope.names cl,qual:=qual,func:=none,code:=outer.code,frame:=outer.frame,builtins:=outer.builtins}
      {s with heap:=pushCells (s.heap.push {cls:=.type "dict",data:=.dict #[]}) scope.names}) :
    wpAny M A (newFunctionEnv scope globals cl [] qual none .none (some outer)) Q E s:=by
  simp only[newFunctionEnv,Option.isSome_some,gY];refine ah (wpAny_alloc ?_);refine ah (wpAny_layCells _ (λname kind cells=>by cases UX:kind==NameKind.cell<;>simp[UX]) _ _ _ _ ?_);rw[show({s with heap:=s.heap.push {cls:=.type "dict",data:=.dict #[]}}:Shared).heap.objs.size=s.heap.objs.size+1 from jV ..];rw[vn];exact ah (a7 (a7 hQ))
noncomputable def Cx.block(X:Cx)(scope:Scope)(cl:List (Str×Addr))(C:Addr)(N':List Str)(s:Shared)(H:Hp)(fp:List Addr)(pn:List (Addr×Obj)):Cx :=
 {X with N:=N',dg:=s,H₀:=H,env:=compEnvC scope (cellsFrom (C+1) scope.names cl) C X.env,outer:=X.stack,ex:=fp,fn:=λx=>scope.names.lookup x==some .cell,pn:=pn,xe:=λ_ _=>False}
structure Gi (X:Cx) (scope:Scope) (cl:List (Str×Addr)):Prop where
 is:closureFor scope X.env=pure cl
 sub:∀x c,cl.lookup x=some c->X.env.cells.lookup x=some c
 has:∀x,scope.names.lookup x=some .free->∃c,cl.lookup x=some c
theorem cL {env : Env} : ∀ {names : List (Str × NameKind)} {x : Str} {k : NameKind}, names.lookup x = some k ->
    (names.map λ(n,k)=>if (k==NameKind.free&&env.scope.kind == .function&&env.kindOf n==some .cell) then (n,NameKind.cell) else (n,k)).lookup x =
      some (if (k==NameKind.free&&env.scope.kind == .function&&env.kindOf x==some .cell) then .cell else k)
  | [],_,_,h=>by simp at h
  | (n,k')::r,x,k,h=>by
    have ih:=@cL env r x k;show List.lookup x ((if (k'==NameKind.free&&env.scope.kind == .function&&env.kindOf n==some .cell)=true then (n,NameKind.cell) else (n,k'))::_)=_
    cases hx:x==n with
    | true =>
      simp only[d6,hx]at h;cases h;have e:x=n:=by simpa using hx
      subst e;split<;>simp[d6]
    | false =>
      simp only[d6,hx]at h;by_cases hc:(k'==NameKind.free&&env.scope.kind == .function&&env.kindOf n==some .cell)=true
      · rw[aG hc];simp only[d6,hx];exact ih h
      · rw[aR hc];simp only[d6,hx];exact ih h
theorem gH {env : Env} : ∀ {names : List (Str × NameKind)} {x : Str} {k : NameKind},
    (names.map λ(n,k)=>if (k==NameKind.free&&env.scope.kind == .function&&env.kindOf n==some .cell) then (n,NameKind.cell) else (n,k)).lookup x=some k ->
      ∃k',names.lookup x=some k'/\k=(if (k'==NameKind.free&&env.scope.kind == .function&&env.kindOf x==some .cell) then .cell else k')
  | names,x,k,h=>by
    cases q:names.lookup x with
    | some k' =>
      have:=cL (env:=env) q;rw[this]at h;exact⟨k',rfl,(cx h).symm⟩
    | none =>
      exfalso
      induction names with
      | nil=>simp at h
      | cons a r ih =>
        obtain⟨n,k'⟩:=a
        cases hx:x==n with
        | true=>simp[d6,hx]at q
        | false =>
          simp only[d6,hx]at q;have h':List.lookup x ((if (k'==NameKind.free&&env.scope.kind == .function&&env.kindOf n==some .cell)=true then (n,NameKind.cell) else (n,k'))::(r.map λ(n,k)=>if (k==NameKind.free&&env.scope.kind == .function&&env.kindOf n==some .cell) then (n,NameKind.cell) else (n,k)))=some k:=h;by_cases hc:(k'==NameKind.free&&env.scope.kind == .function&&env.kindOf n==some .cell)=true
          · rw[aG hc]at h';simp only[d6,hx]at h';exact ih h' q
          · rw[aR hc]at h';simp only[d6,hx]at h';exact ih h' q
noncomputable def h_(bY:List (Option Nat))(σ:St):St:=bY.map λo=>o.bind λj=>(σ[j]?).join
structure xM (X:Cx) (scope:Scope) (N':List Str) (bY:List (Option Nat)):Prop where
 len:bY.length=N'.length
 out:∀(i j:Nat)(x:Str),bY[i]?=some (some j)->N'[i]?=some x->X.N[j]?=some x/\scope.names.lookup x=some .free/\(X.env.kindOf x=some .cell\/X.env.kindOf x=some .free)
section
variable {X:Cx} {pins:List (Addr×Obj)} {σ:St} {H:Hp} {s:Shared} {scope:Scope} {cl:List (Str×Addr)} {N':List Str} {bY:List (Option Nat)} {fp:List Addr}
theorem oD{h1:Heap}(I:Inv X pins σ H s)(xi:scope.kind=.function)(j2:∀y∈scope.names,y.2=.cell->scope.names.lookup y.1=some .cell)(cs:Gi X scope cl)(co:xM X scope N' bY)(hf:∀b∈fp,jx X pins H b)(ho:∀b∈fp,b<s.heap.objs.size)(j9:h1.Ns s.heap.objs.size (λ_=>none))(hk:∀b u,s.heap.get? b=some u->h1.get? b=some u)(lJ:∀x c,(cellsFrom (s.heap.objs.size+1) scope.names cl).lookup x=some c->cl.lookup x=some c\/(s.heap.objs.size+1<=c/\h1.IsCell c none))(tk:Nat):Inv (X.block scope cl s.heap.objs.size N' s H fp []) [] (h_ bY σ) H {s with heap:=h1,toks:=tk}:=by
 have I1:Inv X pins σ H {s with heap:=h1,toks:=tk}:=I.kept hk
 have DF:∀x c,cl.lookup x=some c->c<s.heap.objs.size:=λx c e=>by
  obtain⟨v,q⟩:=I.cell x c (cs.sub x c e);exact q.lt
 have fr:H s.heap.objs.size=none:=I.bc.fresh (a6 _)
 have same:∀x,scope.names.lookup x=some .free->(cellsFrom (s.heap.objs.size+1) scope.names cl).lookup x=cl.lookup x:=λx hx =>
  bR _ _ _ λz=>by have:=j2 _ z rfl;rw[hx]at this;cases this
 refine⟨⟨I.ok.mod,xi,I.ok.glob,I.ok.blt,a6 _,eE _ _ _ (λx c e=>zW (DF x c e)) (λx y c a b=>I.ok.inj x y c (cs.sub _ _ a) (cs.sub _ _ b)),λx hx=>?_,λx c z e=>?_,I.ok.hd,I.ok.frames,.inl rfl,λb hb=>⟨?_,λx c e=>?_⟩,λb o e=>I.bs b o e,
  d7 I.ok.Ad I.sz,λb o e hb=>?_,λb hb UY=>?_,I.stack,I.qZ⟩,rfl,I.bare,Un.kept hk,⟨_,j9,λi x v e1 e2 e3=>?_⟩,λx c e=>?_,fr,λx c e=>?_,λp hp=>?_,I.bc.kept hk,?_⟩
 ·have hx:(relabel scope X.env).names.lookup x=some .cell\/(relabel scope X.env).names.lookup x=some .free:=hx
  have j_:∃k',scope.names.lookup x=some k'/\(k'=.free\/k'=.cell):=by
   have go:∀k,(k=.cell\/k=.free)->(relabel scope X.env).names.lookup x=some k->∃k',scope.names.lookup x=some k'/\(k'=.free\/k'=.cell):=by
    intro k hk hx;obtain⟨k',e,ek⟩:=gH hx;refine⟨k',e,?_⟩;by_cases z:k'=.free
    ·exact .inl z
    ·rw[aR (by cases k'<;>first | exact absurd rfl z | simp)]at ek;subst ek;rcases hk with hk | hk
     ·exact .inr hk
     ·exact .inl hk
   rcases hx with hx | hx
   ·exact go _ (.inl rfl) hx
   ·exact go _ (.inr rfl) hx
  obtain⟨k',e,QP⟩:=j_;show ∃c,(cellsFrom (s.heap.objs.size+1) scope.names cl).lookup x=some c;rcases QP with z | z
  ·subst z;rw[same x e];exact cs.has x e
  ·subst z;exact eD _ _ _ (jR e)
 ·have z:(scope.names.lookup x==some .cell)=true:=z;have z:scope.names.lookup x=some .cell:=eq_of_beq z;exact vd (eC _ _ _ (jR z) e)
 ·exact eM (ho b hb)
 ·rcases lJ x c e with q | ⟨q,_⟩
  ·exact(hf b hb).2.2.2.2.1 x c (cs.sub x c q)
  ·have UZ:=ho b hb;intro z;rw[z]at q;exact absurd UZ (Nat.not_lt_of_le (vd q))
 ·rcases(hf b hb).2.2.2.1 with z | z
  ·exact I.ok.tY b o e z
  ·have h1:=bO e;have h2:=I.ok.Ad;exact absurd (eV h1 (d7 h2 z)) (jW _)
 ·rcases bF.mp (I.pV b UY)with z | z
  ·exact(hf b hb).2.1 z
  ·exact(hf b hb).2.2.1 z
 ·have e1:N'[i]?=some x:=e1;unfold h_ at e2;rw[dP]at e2
  cases q:bY[i]? with
  | none=>rw[q]at e2;cases e2
  | some oj =>
   rw[q]at e2
   cases oj with
   | none=>cases e2
   | some j =>
    have Mr:(σ[j]?).join=some v:=cx e2
    have QQ:σ[j]?=some (some v):=by
     cases r:σ[j]? with
     | none=>rw[r]at Mr;cases Mr
     | some ov=>rw[r]at Mr;cases ov with
      | none=>cases Mr
      | some z=>cases Mr;rfl
    obtain⟨o1,o2,o3⟩:=co.out i j x q e1;obtain⟨m,hn,hl⟩:=I1.loc;obtain⟨u,r,l⟩:=hl j x v o1 QQ (o3.elim (λz=>.inr (.inl z)) λz=>.inr (.inr z));refine⟨u,r,.inr ⟨?_,?_⟩⟩
    ·show(relabel scope X.env).names.lookup x=some .cell\/(relabel scope X.env).names.lookup x=some .free;rw[show(relabel scope X.env).names.lookup x=_ from cL o2];split
     ·exact .inl rfl
     ·exact .inr rfl
    ·obtain⟨c,hc⟩:=cs.has x o2;have pW:=cs.sub x c hc;rcases l with⟨QP,hm⟩|⟨_,c2,DQ,Gj⟩
     ·exfalso;rw[QP]at o3;rcases o3 with o3 | o3<;>cases o3
     ·rw[pW]at DQ;cases DQ;exact⟨c,(same x o2).trans hc,Gj⟩
 ·rcases lJ x c e with q | ⟨_,q⟩
  ·exact I1.cell x c (cs.sub x c q)
  ·exact⟨none,q⟩
 ·rcases lJ x c e with q | ⟨q,_⟩
  ·exact I1.fy x c (cs.sub x c q)
  ·exact I.bc.fresh (vd q)
 ·exact absurd (show p∈([]:List (Addr×Obj)) from hp) (by simp)
 ·show(h_ bY σ).length=N'.length;unfold h_;rw[aV];exact co.len
end
noncomputable def QR:Option TT->TT
 | none=>λ_ H Q=>Q true H
 | some t=>t
def qf(bY:List (Option Nat))(g:TG)(tc:Option TT)(te:TE)(σ:St)(J:It)(H1:Hp)(Q:V->Hp->Prop):Prop :=
 ∀D,H1 D=none->∃W:Nat->Nat->St->Hp->List V->Prop,(∃m,W 0 m (h_ bY σ) (bw H1 D (.lst [])) []) /\
  ∀i m τ H ys,W i m τ H ys->H D=some (.lst ys)/\((J.stop i H/\Q (.ref D) H) \/
   (J.go i H/\ys.length<sizeLine/\∀x H',J.LP i H x H'->g x τ H' λzF H2=>QR tc zF H2 λb H3 =>
    if b=true then te zF H3 λv H4=>H4 D=some (.lst ys)/\∃m',m'<m/\W (i+1) m' zF (bw H4 D (.lst (ys++[v]))) (ys++[v])
    else ∃m',m'<m/\W (i+1) m' zF H3 ys))
def rD(bY:List (Option Nat))(wi:TI)(g:TG)(tc:Option TT)(te:TE):TE:=λσ H Q=>wi σ H λJ H1=>qf bY g tc te σ J H1 Q
def Ms(X:Cx)(scope:Scope)(N':List Str)(cl:List (Str×Addr))(ifs:List Expr):Option TT->Prop
 | none=>ifs=[]
 | some t=>∃c,ifs=[c]/\∀C s H fp,PT (X.block scope cl C N' s H fp []) c t
structure iQ (X:Cx) (scope:Scope) (N':List Str) (bY:List (Option Nat)) (cl:List (Str×Addr)) (tg elt:Expr) (ifs:List Expr) (g:TG) (tc:Option TT) (te:TE):Prop where
 kind:scope.kind=.function
 Gk:∀y∈scope.names,y.2=.cell->scope.names.lookup y.1=some .cell
 names:∀y∈scope.names,y.2=.local->scope.names.lookup y.1=some .local
 Gm:Gi X scope cl
 QS:xM X scope N' bY
 tg:∀C s H fp,PG (X.block scope cl C N' s H fp []) tg g
 ifs:Ms X scope N' cl ifs tc
 elt:∀C s H fp,PE (X.block scope cl C N' s H fp []) elt te
section
variable {X:Cx} {scope:Scope} {N':List Str} {bY:List (Option Nat)} {cl:List (Str×Addr)} {tg elt aC:Expr} {ifs:List Expr} {g:TG} {tc:Option TT} {te:TE} {pos:Pos}
theorem oE {pins : List (Addr × Obj)} {s2 : Shared} {σ : St} {H2 : Hp} {it : Addr} {fp : List Addr} {tn : Nat -> Heap -> Prop} {J : It} {E : Value -> Shared -> Prop} {Q : V -> Hp -> Prop} {RR : Value -> Addr -> Result -> Shared -> Prop}
    (hc:X.calm=true) (ck:iQ X scope N' bY cl tg elt ifs g tc te) (I2:Inv X pins σ H2 s2) (T:pY X.prog X.w X.K tg J fp it tn) (mH:tn 0 s2.heap) (f2:∀b∈fp,jx X pins H2 b) (h:qf bY g tc te σ J H2 Q)
    (U0:∀(D C:Addr)(H':Hp)(s':Shared)(m:Str->Option Value),Inv X pins σ H' s'->s'.heap.Ns C m->H' C=none->X.dg.heap.objs.size<=C->C≠X.env.locals->C∉X.fs->(∀x c,X.env.cells.lookup x=some c->c≠C)->(∀p∈X.pn++pins,p.1≠C)->Q (.ref D) H'->RR (.ref D) C (.ok .next) s') :
    wpAny (model X.prog X.w) X.A (newList []) (λaB ow=>wpAny (model X.prog X.w) X.A (newFunctionEnv scope X.env.globals cl [] X.env.qual none .none (some X.env)) (λMt uq =>
      codeAny (model X.prog X.w) X.A (.compStart (.ListComp elt [⟨tg,aC,ifs,0⟩] scope pos) 0 (.ref it) aB {Mt with scope:=relabel scope X.env}) (RR aB Mt.locals) uq) E ow) E s2:=by
  refine pQ ?_;generalize hH:s2.heap.push {cls:=.type "list",dict:=none,data:=.seq ([]:List Value).toArray}=hh;have hD:H2 s2.heap.objs.size=none:=I2.bc.fresh (a6 _);have k3:∀b u,s2.heap.get? b=some u->hh.get? b=some u:=λb u e=>by rw[<- hH];exact bC _ e
  have I3:Inv X pins σ (bw H2 s2.heap.objs.size (.lst [])) {s2 with heap:=hh} :=
    I2.laid (t':=s2.toks) k3 (a6 _) ⟨Nat.zero_le _,[],0,.nil,by rw[<- hH];exact dC _ rfl⟩
  have f3:∀b∈fp,jx X pins (bw H2 s2.heap.objs.size (.lst [])) b:=λb hb=>by
    obtain⟨o,e,_⟩:=T.obj _ _ mH b hb;exact⟨by rw[ar (eM (bO e))];exact(f2 b hb).1,(f2 b hb).2⟩
  have b3:∀b∈fp,b<hh.objs.size:=λb hb=>by
    obtain⟨o,e,_⟩:=T.obj _ _ mH b hb;exact bO (k3 b o e)
  have OT:tn 0 hh:=T.keep _ _ _ mH λb hb o e=>k3 b o e;obtain⟨W,⟨m0,w0⟩,wW⟩:=h s2.heap.objs.size hD;refine m8 (s:={s2 with heap:=hh}) ?_;have k4:∀b u,hh.get? b=some u->(pushCells (hh.push {cls:=.type "dict",data:=.dict #[]}) scope.names).get? b=some u:=λb u e=>pushCells_keeps _ _ b u (bC _ e);have Mu:(pushCells (hh.push {cls:=.type "dict",data:=.dict #[]}) scope.names).Ns hh.objs.size (λ_=>none):=(Heap.Ns.new hh (.type "dict")).keeps (pushCells_keeps _ _)
  have lJ:∀x c,(cellsFrom (hh.objs.size+1) scope.names cl).lookup x=some c->cl.lookup x=some c\/(hh.objs.size+1<=c/\(pushCells (hh.push {cls:=.type "dict",data:=.dict #[]}) scope.names).IsCell c none):=λx c e=>by
    have:=dX (x:=x) (c:=c) scope.names (hh.push {cls:=.type "dict",data:=.dict #[]}) cl (by rw[jV];exact e);rw[jV]at this;exact this
  generalize Xv:pushCells (hh.push {cls:=.type "dict",data:=.dict #[]}) scope.names=uk at k4 Mu lJ;have O0:tn 0 uk:=T.keep _ _ _ OT λb hb o e=>k4 b o e;have I4:=oD (tk:=s2.toks) I3 ck.kind ck.Gk ck.Gm ck.QS f3 b3 Mu k4 lJ;generalize hX:X.block scope cl hh.objs.size N' {s2 with heap:=hh} (bw H2 s2.heap.objs.size (.lst [])) fp []=X' at I4;have ma:X'.prog=X.prog:=by rw[<- hX];rfl
  have xw:X'.w=X.w:=by rw[<- hX];rfl
  have xK:X'.K=X.K:=by rw[<- hX];rfl
  have xA:X'.A=X.A:=by rw[<- hX];rfl
  have xc:X'.calm=true:=by rw[<- hX];exact hc
  have AK:X'.env=compEnvC scope (cellsFrom (hh.objs.size+1) scope.names cl) hh.objs.size X.env:=by rw[<- hX];rfl
  have O1:X'.xe=λ_ _=>False:=by rw[<- hX];rfl
  have QT:∀{H':Hp},(∀b∈fp,H' b=none)->∀b∈fp,jx X' [] H' b:=λ{H'} hn b hb=>by
    have z:=I4.ok.OP b (by rw[<- hX];exact hb);exact⟨hn b hb,z.1,I4.ok.tZ b (by rw[<- hX];exact hb),.inl (by rw[<- hX];exact hb),z.2,λp hp=>absurd (show p∈([]:List (Addr×Obj)) by rw[<- hX]at hp;exact hp) (by simp)⟩
  have S8:=ck.tg hh.objs.size {s2 with heap:=hh} (bw H2 s2.heap.objs.size (.lst [])) fp;have Mv:=ck.ifs;have Mx:=ck.elt hh.objs.size {s2 with heap:=hh} (bw H2 s2.heap.objs.size (.lst [])) fp;rw[hX]at S8 Mx
  have loop : ∀ s4 : Shared, Inv X' [] (h_ bY σ) (bw H2 s2.heap.objs.size (.lst [])) s4 -> tn 0 s4.heap ->
      codeAny (model X.prog X.w) X.A (.compLoop (.ListComp elt [⟨tg,aC,ifs,0⟩] scope pos) 0 (.ref it) (.ref s2.heap.objs.size) (compEnvC scope (cellsFrom (hh.objs.size+1) scope.names cl) hh.objs.size X.env)) (RR (.ref s2.heap.objs.size) hh.objs.size) s4:=by
    intro s4 I4 O0;refine m7 (λn s'=>∃i τ H' ys,Inv X' [] τ H' s'/\tn i s'.heap/\(∀b∈fp,H' b=none)/\W i n τ H' ys) ?_ m0 ⟨0,_,_,[],I4,O0,λb hb=>(f3 b hb).1,w0⟩;rintro n s5 ⟨i,τ,H5,ys,I5,Jd,OU,w5⟩;obtain⟨Xw,stop | ⟨go,hz,step⟩⟩:=wW i n τ H5 ys w5
    · have td:=T.done X' ma xw xK xc i [] s5 τ H5 (λ_ _=>False) I5 (QT OU) Jd stop.1;rw[xA]at td;refine bP td ?_;rintro r s6 ⟨rfl,I6⟩;have base:=I6.base;have os:=I6.os;have bc:=I6.bc;have nZ:=I6.free;obtain⟨m,hm,_⟩:=I6.loc;rw[AK]at nZ hm;rw[<- hX]at base os bc;refine U0 _ _ H5 s6 m (I3.LC (ch:=fp) os base bc I6.bare λb hb=>⟨(f3 b hb).2.2.2.1,(f3 b hb).2.1,(f3 b hb).2.2.2.2.1,(f3 b hb).2.2.2.2.2⟩) hm nZ I3.sz (Nat.ne_of_gt I3.lt) (I3.Lx (a6 _)) (λx c e z=>?_) (λp hp z=>?_) stop.2
      · obtain⟨v,q⟩:=I3.cell x c e;exact absurd q.lt (by rw[z];exact jW _)
      · exact absurd (bO (I3.pin p hp).1) (by rw[z];exact jW _)
    · have ti:=T.item X' ma xw xK xc i [] s5 τ H5 (λ_ _=>False) I5 (QT OU) Jd go;rw[xA]at ti;refine bP ti ?_;rintro r s6 ⟨u,rfl,h6⟩;refine bP h6 ?_;rintro _ s7 ⟨x,H7,I7,r7,y7,QU,U1⟩;have U2:=I7.pinned (QT U1) (T.obj _ _ QU);have ga:=S8 _ s7 τ H7 x u _ U2 r7 (step x H7 y7);rw[ma,xw,xA,O1,AK]at ga;refine bP ga ?_;rintro _ s8 ⟨DT,H8,I8,q8⟩
      have fin:∀{O2:St}{H9:Hp}{s9:Shared}{QV:List V},Inv X' ([]++iO fp s7.heap) O2 H9 s9->(∃m',m'<n/\W (i+1) m' O2 H9 QV)->∃m',m'<n/\∃i τ H' ys,Inv X' [] τ H' s9/\tn i s9.heap/\(∀b∈fp,H' b=none)/\W i m' τ H' ys:=λ{O2 H9 s9 QV} I9 w9=>by
        obtain⟨m',hm,w9⟩:=w9;refine⟨m',hm,i+1,O2,H9,QV,I9.fB,T.keep _ _ _ QU λb hb o e=>(I9.pin (b,o) (gA _ (gA _ (eY hb e)))).1,λb hb=>?_,w9⟩;obtain⟨o,e,d⟩:=T.obj _ _ QU b hb;exact(I9.pin (b,o) (gA _ (gA _ (eY hb e)))).2.1
      have dS:∀b s9,TP X' ([]++iO fp s7.heap) DT (λb H3 =>
        if b=true then te DT H3 λv H4=>H4 s2.heap.objs.size=some (.lst ys)/\∃m',m'<n/\W (i+1) m' DT (bw H4 s2.heap.objs.size (.lst (ys++[v]))) (ys++[v])
        else ∃ m', m' < n /\ W (i + 1) m' DT H3 ys) b s9 -> (if b = true then wpAny (model X.prog X.w) X.A (eval elt (compEnvC scope (cellsFrom (hh.objs.size + 1) scope.names cl) hh.objs.size X.env)) (fun x uq =>
              wpAny (model X.prog X.w) X.A (call (.builtin "list.append") [.ref s2.heap.objs.size,x]) (λ_ xJ=>∃m,m<n/\∃i τ H' ys,Inv X' [] τ H' xJ/\tn i xJ.heap/\(∀b∈fp,H' b=none)/\W i m τ H' ys) (λ_ _=>False) uq) (λ_ _=>False) s9
            else ∃m,m<n/\∃i τ H' ys,Inv X' [] τ H' s9/\tn i s9.heap/\(∀b∈fp,H' b=none)/\W i m τ H' ys):=by
        rintro b s9 ⟨H9,I9,q9⟩
        cases b with
        | false=>rw[aR (by simp)]at q9⊢;exact fin I9 q9
        | true =>
          rw[aG rfl]at q9⊢;have ge:=Mx _ s9 DT H9 _ I9 q9;rw[ma,xw,xA,O1,AK]at ge;refine bP ge ?_;rintro v U3 ⟨y,U4,U5,U6,U7,U8⟩;have ap:=l9 (X:=X') _ U3 DT U4 (.ref s2.heap.objs.size) [y] (.ref s2.heap.objs.size) [v] (λ_ H'=>∃m',m'<n/\W (i+1) m' DT H' (ys++[y])) U5 rfl (.cons U6 .nil) ⟨_,ys,y,rfl,rfl,U7,hz,U8⟩;rw[ma,xw,xA,O1]at ap;exact bP ap λ_ Xx ⟨_,Xy,U9,_,U_⟩=>fin U9 U_
      cases tc with
      | none =>
        have ei:ifs=[]:=Mv;subst ei;exact wpAny_tests_nil (dS true s8 ⟨H8,I8,q8⟩)
      | some t =>
        obtain⟨c,ei,pt⟩:=Mv;subst ei;have pt:=pt hh.objs.size {s2 with heap:=hh} (bw H2 s2.heap.objs.size (.lst [])) fp;rw[hX]at pt;refine wpAny_tests_one ?_;have gt:=pt _ s8 DT H8 _ I8 q8;rw[ma,xw,xA,O1,AK]at gt;exact bP gt λb s9 q=>dS b s9 q
  have DU:=loop _ I4 O0;exact codeAny_compStart_list DU (T.self _ 0 _ _ _ O0 DU)
end
section
variable {X:Cx} {scope:Scope} {N':List Str} {bY:List (Option Nat)} {cl:List (Str×Addr)} {tg elt aC:Expr} {ifs:List Expr} {g:TG} {tc:Option TT} {te:TE} {wi:TI} {pos:Pos}
theorem AM(hc:X.calm=true)(hi:PI X tg aC wi)(ck:iQ X scope N' bY cl tg elt ifs g tc te)(hs:∀x,foldedSetIterable aC X.env x=pure x:=by intro _;rfl):PE X (.ListComp elt [⟨tg,aC,ifs,0⟩] scope pos) (rD bY wi g tc te):=by
 intro pins s σ H Q I h;rw[eval_ListComp];refine wpAny_comprehension_free (use:=none) rfl hs ck.Gm.is ck.kind ck.names (bP (hi pins s σ H _ I h) λv s1 h1=>bP h1 λOS s2 h2=>?_);obtain⟨it,fp,tn,J,H2,e,I2,T,mH,f2,hC⟩:=h2;subst e;refine oE (Q:=Q) (RR:=λaB C=>compPost (model X.prog X.w) X.A X.xe none (EP X pins σ Q) aB C) hc ck I2 T mH f2 hC ?_;intro D C H' s' m I' hm QW QX O3 S9 QY QZ q;refine⟨m,hm,λh' Q0=>?_⟩;exact⟨.ref D,H',I'.turned (t':=s'.toks) (λb o hb e=>Q0.extBut b o hb e) QW (ju (ju O3)) (.inr QX) QY QZ,rfl,q⟩
theorem AN{y:Str}{py My:Pos}{i:Nat}(hc:X.calm=true)(hN:X.N.Nodup)(hy:X.N[i]?=some y)(hk:X.env.kindOf y=some .local)(Va:swapsWith (.ListComp elt [⟨tg,aC,ifs,0⟩] scope pos) (some (.Name y py)) My.line X.env=pure true)(hi:PI X tg aC wi)(ck:iQ X scope N' bY cl tg elt ifs g tc te)(hs:∀x,foldedSetIterable aC X.env x=pure x:=by intro _;rfl):PS X (.Assign [.Name y py] (.ListComp elt [⟨tg,aC,ifs,0⟩] scope pos) My) (λD σ H=>rD bY wi g tc te σ H λv H'=>D.nx (σ.set i (some v)) H'):=by
 intro pins s σ H D I h;rw[exec_Assign_Name_used _ _ _ _ Va];refine ah (wpAny_standAt (ah ?_));show wpAny _ X.A (do let _ <- comprehension (.ListComp elt [⟨tg,aC,ifs,0⟩] scope pos) scope X.env _ (newList []) false (eval aC X.env) (some (assign (.Name y py) X.env))) _ _ s;refine ah (iJ (wpAny_comprehension_free (use:=some (assign (.Name y py) X.env)) (Q:=λ_ s'=>SP X pins D .next s') rfl hs ck.Gm.is ck.kind ck.names (bP (hi pins s σ H _ I h) λv s1 h1=>bP h1 λOS s2 h2=>?_)) (λ_ s' hq=>a7 (a7 hq)) λ_ _ e=>e);obtain⟨it,fp,tn,J,H2,e,I2,T,mH,f2,hC⟩:=h2;subst e;refine oE (Q:=λv H'=>D.nx (σ.set i (some v)) H') (RR:=λaB C=>compPost (model X.prog X.w) X.A X.xe (some (assign (.Name y py) X.env)) (λ_ s'=>SP X pins D .next s') aB C) hc ck I2 T mH f2 hC ?_;intro D' C H' s' m I' hm QW QX O3 S9 QY QZ q;show wpAny _ X.A (assign (.Name y py) X.env (.ref D')) _ _ s';obtain⟨o,es,ep,ho,hd,Mz⟩:=hm
 have Ip:Inv X (pins++[(C,o)]) σ H' s':=I'.mK λp hp=>(gW.mp hp).elim (λz=>I'.pin p (gA _ z)) λz=>by
  have e:p=(C,o):=by simpa using z
  subst e;exact⟨ho,QW,O3,S9,λv z=>by rw[hd]at z;cases z⟩
 have st:=mM (pos:=py) hN hy (.inl hk) (.inr hk) _ s' σ H' (.ref D') (.ref D') (λcg H'=>D.nx cg H') Ip rfl q;refine bP st ?_;rintro _ L6 ⟨Q1,Vb,S_,Vc⟩;have pc:=S_.pin (C,o) (by simp);refine⟨m,⟨o,es,ep,pc.1,hd,Mz⟩,λh' Q0=>?_⟩;exact⟨Q1,Vb,S_.fB.turned (t':=L6.toks) (λb o hb e=>Q0.extBut b o hb e) pc.2.1 O3 (.inr QX) QY QZ,Vc⟩
end
end L2
end
section
namespace L2
open PySem PySem.Spec PyProof.Rows
section
variable {prog:Program} {w:World} {A:Around} {E:Value->Shared->Prop} {s:Shared}
noncomputable def md(prog:Program)(w:World)(A:Around)(s:Shared)(it:Addr)(x:Value)(after:Heap->Prop):Prop :=
 ∀(Q:Value->Shared->Prop)(E:Value->Shared->Prop),(∀h',after h'->Heap.SameBut it s.heap h'->Q x {s with heap:=h'})->wpAny (model prog w) A (Builtin.SmallTypes.nextOf (.ref it)) Q E s
noncomputable def oF(prog:Program)(w:World)(A:Around)(s:Shared)(it:Addr):Prop :=
 ∀(Q:Value->Shared->Prop)(E:Value->Shared->Prop),(∀h' e,Heap.ExtBut it s.heap h'->(∃o,h'.get? e=some o/\o.cls=.type "StopIteration")->E (.ref e) {s with heap:=h'}) ->
  wpAny (model prog w) A (Builtin.SmallTypes.nextOf (.ref it)) Q E s
theorem qg{it l:Addr}{i:Nat}{items:Array Value}{x:Value}(m9:s.heap.IsListIter it l i)(hl:s.heap.IsList l items)(hx:items[i]?=some x):md prog w A s it x (λh=>h.IsListIter it l (i+1)):=λQ E hq=>wpAny_nextOf_list_item m9 hl hx hq
theorem qh{it l:Addr}{i:Nat}{items:Array Value}(hh:A.handled=none)(m9:s.heap.IsListIter it l i)(hl:s.heap.IsList l items)(hx:items[i]?=none):oF prog w A s it:=λQ E hq=>wpAny_nextOf_list_end hh m9 hl hx hq
theorem ur{it t:Addr}{i:Nat}{items:Array Value}{x:Value}(m9:s.heap.IsTupleIter it t i)(ht:s.heap.IsTuple t items)(hx:items[i]?=some x):md prog w A s it x (λh=>h.IsTupleIter it t (i+1)):=by
 intro Q E hq;obtain⟨o,e1,e2,e3⟩:=id m9;obtain⟨ot,t1,_,nt,t2⟩:=ht;unfold Builtin.SmallTypes.nextOf;refine ah (tq (name:=Str.ofString "__next__") m9.typeIs zP ?_);refine pT zP m9.typeIs F.entry_tuple_iterator_next ?_ (F.args_tuple_iterator_next_1 _);show wpAny _ _ (field (.ref it) 0 >>= _) _ _ s;refine ah (gc e1 e3 (x:=.ref t) rfl ?_);show wpAny _ _ (if (Value.ref t==Value.none)=true then _ else _) _ _ s;rw[aR (by intro z;cases z)];refine ah (gc e1 e3 (x:=.int i 0) rfl (ah (nV t1 t2 ?_)));simp only[EU,hx];refine ah (wpAny_setField e1 e3 (by simp) (a7 ⟨x,rfl,a7 (hq _ ⟨_,Heap.get?_update_self _ e1 (Obj.isFreed_of_fields (Obj.data_mapFields e3 _)),(Obj.cls_mapFields ..).trans e2,?_⟩ (Heap.SameBut.update ..))⟩));rw[Obj.data_mapFields e3];simp[rawInt]
theorem uu{it t:Addr}{i:Nat}{items:Array Value}(hh:A.handled=none)(m9:s.heap.IsTupleIter it t i)(ht:s.heap.IsTuple t items)(hx:items[i]?=none):oF prog w A s it:=by
 intro Q E hq;obtain⟨o,e1,e2,e3⟩:=id m9;obtain⟨ot,t1,_,nt,t2⟩:=ht;unfold Builtin.SmallTypes.nextOf;refine ah (tq (name:=Str.ofString "__next__") m9.typeIs zP ?_);refine pT zP m9.typeIs F.entry_tuple_iterator_next ?_ (F.args_tuple_iterator_next_1 _);show wpAny _ _ (field (.ref it) 0 >>= _) _ _ s;refine ah (gc e1 e3 (x:=.ref t) rfl ?_);show wpAny _ _ (if (Value.ref t==Value.none)=true then _ else _) _ _ s;rw[aR (by intro z;cases z)];refine ah (gc e1 e3 (x:=.int i 0) rfl (ah (nV t1 t2 ?_)));simp only[EU,hx];refine ah (wpAny_rule (ah (wpAny_setField e1 e3 (by simp) ?_)));show wpAny _ _ (newExc (.type "StopIteration") [] >>= _) _ _ _;refine ah ?_;simp only[newExc,newTuple];refine ah (pQ ?_ (by size_fits));refine ah (m:=firstArgMember _ _) (wpAny_of_eq (a:=Value.none) (by first | rfl | (simp only[firstArgMember];rfl)) (pQ ?_ (by size_fits)));simp only[raiseNew];refine ah (wpAny_handled ?_)
 first | rw[show A.in1.handled=none from hh] | rw[hh]
 exact ah (a7 (wpAny_throw (hq _ _ (((Heap.SameBut.update ..).extBut.push _).push _) ⟨_,dC _ rfl,rfl⟩)))
end
theorem oG{h:Heap}{o:Obj}{b:Addr}(hb:b≠h.objs.size):(h.push o).get? b=h.get? b:=Heap.get?_push_ne h b o hb
theorem Inv.rE{X:Cx}{pins:List (Addr×Obj)}{σ:St}{H:Hp}{s:Shared}{h':Heap}{t':Nat}{ch:List Addr}(I:Inv X pins σ H s)(k:∀b o,b∉ch->s.heap.get? b=some o->h'.get? b=some o)(hf:∀b∈ch,jx X pins H b):Inv X pins σ H {s with heap:=h',toks:=t'}:=by
 have LA:∀b u,H b=some u->b∉ch:=λb u e z=>by rw[(hf b z).1]at e;cases e
 refine I.step (g':=s.gens) (d':=s.drawn) (ch:=ch) (λb hb=>⟨(hf b hb).2.2.2.1,(hf b hb).2.1,(hf b hb).2.2.2.2.1,(hf b hb).2.2.2.2.2⟩) (λb o _ _ hc e _=>k b o hc e) (λb o _ _ hc e _=>⟨o.slots,k b o hc e⟩) (λ_ _ _ _ n=>n)
  (λb o hc e=>⟨o,k b o hc e⟩) (λ_ _ e=>e) (λ_ _ _ e=>e) (λb ps e=>⟨#[],by rw[e];simp⟩) (λm hm=>?_) (λb u e=>?_) I.bare
 ·obtain⟨o,es,ep,ho,r⟩:=hm;exact⟨o,es,ep,k _ o (λz=>(hf _ z).2.1 rfl) ho,r⟩
 ·refine(I.bc b u e).tV (λc v hc q=>k c v ?_ q) (λ_ q=>q) λ_ _ q=>q;rcases hc with z | z
  ·rw[z];exact LA b u e
  ·exact LA c _ z
def nL(K:PySem.W.Frag)(H:Hp)(l:Bool)(a:Addr)(xs:List V):Prop:=if l=true then d5 K H a xs else eJ K H a xs
noncomputable def ia(l:Bool)(h:Heap)(it a:Addr)(i:Nat):Prop:=if l=true then h.IsListIter it a i else h.IsTupleIter it a i
theorem ia.at{l:Bool}{h h':Heap}{it a:Addr}{i:Nat}(x:ia l h it a i)(e:∀o,h.get? it=some o->h'.get? it=some o):ia l h' it a i:=by
 cases l with
 | true=>exact Heap.IsListIter.at (show h.IsListIter it a i from x) e
 | false=>exact Heap.IsTupleIter.at (show h.IsTupleIter it a i from x) e
theorem ia.obj{l:Bool}{h:Heap}{it a:Addr}{i:Nat}(x:ia l h it a i):∃o,h.get? it=some o/\o.data=.fields #[.ref a,.int i 0]:=by
 cases l with
 | true=>obtain⟨o,e,_,d⟩:=(show h.IsListIter it a i from x);exact⟨o,e,d⟩
 | false=>obtain⟨o,e,_,d⟩:=(show h.IsTupleIter it a i from x);exact⟨o,e,d⟩
end L2
end
section
namespace L2
open PySem PySem.Spec PyProof.Rows
section
variable {prog:Program} {w:World} {A:Around} {E:Value->Shared->Prop} {s:Shared}
structure ZA (z ti to i j:Addr):Prop where
 tz:ti≠z
 oz:to≠z
 iz:i≠z
 jz:j≠z
 tt:ti≠to
 di:ti≠i
 dj:ti≠j
 oi:to≠i
 oj:to≠j
 ij:i≠j
abbrev Zp(h:Heap)(z ti to:Addr)(f0 f1:Value):Prop :=
 h.get? z=some {cls:=.type "zip",dict:=none,data:=.fields #[f0,f1,.bool false,.ref ti,.ref to],slots:=#[]}
noncomputable def DV(h:Heap)(z ti to:Addr):Prop:=∃f0 f1,(f0=.none\/∃p:Nat,f0=rawInt p)/\Zp h z ti to f0 f1
theorem kc{z ti to:Addr}{Q:Bool->Shared->Prop}(hz:DV s.heap z ti to)(hQ:∀b h',DV h' z ti to->Heap.SameBut z s.heap h'->Q b {s with heap:=h'}):wpAny (model prog w) A (Builtin.SmallTypes.ownedTupleIsFree (.ref z)) Q E s:=by
 obtain⟨f0,f1,hf,hz⟩:=hz;unfold Builtin.SmallTypes.ownedTupleIsFree;rcases hf with rfl | ⟨p,rfl⟩
 ·exact ah (gc hz rfl (x:=.none) rfl (a7 (hQ true s.heap ⟨_,_,.inl rfl,hz⟩ (.refl _ _))))
 ·refine ah (gc hz rfl (x:=rawInt p) rfl ?_);show wpAny _ _ (loadIfAlive _ >>= _) _ _ _;have al:∀{b:Addr}{R:Option Obj->Shared->Prop},R (s.heap.get? b) s->wpAny (model prog w) A (loadIfAlive b) R E s:=λh _ _ _=>h;refine ah (al ?_)
  cases s.heap.get? (Int.toNat p)with
  | none=>exact a7 (hQ true s.heap ⟨_,_,.inr ⟨p,rfl⟩,hz⟩ (.refl _ _))
  | some o =>
   show wpAny _ _ (field (.ref z) 1 >>= _) _ _ _;refine ah (gc hz rfl (x:=f1) rfl ?_);by_cases hb:(f1 != .bool true)=true
   ·rw[aG hb];exact ah (nS hz (by simp) λh' z1 s1=>a7 (hQ false h' ⟨_,_,.inr ⟨p,rfl⟩,z1⟩ s1))
   ·rw[aR hb];exact a7 (hQ false s.heap ⟨_,_,.inr ⟨p,rfl⟩,hz⟩ (.refl _ _))
theorem Gn{z ti to a:Addr}{tg:Expr}{Q:Unit->Shared->Prop}(hz:DV s.heap z ti to)(hQ:∀h',DV h' z ti to->Heap.SameBut z s.heap h'->Q () {s with heap:=h'}):wpAny (model prog w) A (letOwnedTupleGo tg (.ref z) (.ref a)) Q E s:=by
 obtain⟨f0,f1,hf,hz⟩:=hz;have h0:=hQ s.heap ⟨f0,f1,hf,hz⟩ (.refl _ _)
 have j_:∀c:Bool,wpAny (model prog w) A (if c=true then (do rule "for.unpacks-the-owned-tuple";setField (.ref z) 0 .none) else pure ()) Q E s:=λc=>by
  cases c with
  | false=>exact a7 h0
  | true=>exact ah (wpAny_rule (nS hz (by simp) λh' z1 s1=>hQ h' ⟨_,_,.inl rfl,z1⟩ s1))
 unfold letOwnedTupleGo
 cases tg<;>first
  | exact a7 h0
  | exact ah (wpAny_load hz (j_ _))
theorem xN {z ti to i j : Addr} {x y p q : Value} {st1 mH : Heap -> Prop} {Q : Option Value -> Shared -> Prop} (D : ZA z ti to i j) (zz : DV s.heap z ti to) (yi : IsPair s.heap ti (.ref i) (.ref j)) (yo : IsPair s.heap to p q)
    (n1:∀h',(∀b o,b≠z->s.heap.get? b=some o->h'.get? b=some o)->md prog w A.in1 {s with heap:=h'} i x st1)
    (n2:∀h',(∀b o,b≠z->b≠to->b≠i->s.heap.get? b=some o->h'.get? b=some o)->md prog w A.in1 {s with heap:=h'} j y mH)
    (k1:∀h h',st1 h->(∀o,h.get? i=some o->h'.get? i=some o)->st1 h') (k2:∀h h',mH h->(∀o,h.get? j=some o->h'.get? j=some o)->mH h')
    (hQ:∀h',DV h' z ti to->(∃p q,IsPair h' to p q)->st1 h'->mH h'->h'.get? s.heap.objs.size=some {cls:=.type "tuple",data:=.seq #[x,y]} ->
      (∀b o,b≠z->b≠to->b≠i->b≠j->s.heap.get? b=some o->h'.get? b=some o)->Q (some (.ref s.heap.objs.size)) {s with heap:=h'}) :
    wpAny (model prog w) A (pyNext (.ref z)) Q E s:=by
  have Q2:=zz;obtain⟨f0,f1,hf,z0⟩:=Q2;have hT:s.TypeIs (.ref z) "zip" := ⟨_,z0,rfl⟩;obtain⟨hp,g,d,tk,os⟩:=s;unfold pyNext;refine ah (wpAny_attempt (tq (name:=Str.ofString "__next__") hT vj (pT vj hT F.entry_zip_next ?_ (F.args_zip_next_1 _))));show wpAny _ _ (field (.ref z) 2 >>= _) _ _ _;refine ah (gc z0 rfl (x:=.bool false) rfl ?_);show wpAny _ _ (field (.ref z) 3 >>= _) _ _ _;refine ah (gc z0 rfl (x:=.ref ti) rfl ?_);refine ah (nV yi rfl ?_);show wpAny _ _ (Builtin.SmallTypes.ownedTupleIsFree (.ref z) >>= _) _ _ _;refine ah (kc (s:=⟨hp,g,d,tk,os⟩) zz λfr e0 zz s0=>?_);have s0:Heap.SameBut z hp e0:=s0;clear z0 hf f0 f1;obtain⟨f0,f1,hf,zz⟩:=zz
  cases fr with
  | false =>
    refine ah ?_;simp only[List.forIn_toArray,tM,vn];refine ah (ah (mF ?_));show wpAny _ _ (Builtin.SmallTypes.nextOf (.ref i) >>= _) _ _ _;refine ah (n1 e0 (λb o hb=>s0.extBut b o hb) _ _ λe2 a2 s2=>a7 (a7 ?_));have s2:Heap.SameBut i e0 e2:=s2;refine ah (ah (mF ?_));show wpAny _ _ (Builtin.SmallTypes.nextOf (.ref j) >>= _) _ _ _;refine ah (n2 e2 (λb o b1 b2 b3 u=>s2.extBut b o b3 (s0.extBut b o b1 u)) _ _ λe4 a4 s4=>a7 (a7 (a7 ?_)));have s4:Heap.SameBut j e2 e4:=s4;have sz:e4.objs.size=hp.objs.size:=by rw[s4.1,s2.1,s0.1]
    refine ah (wpAny_newTuple (a7 ⟨_,rfl,a7 ?_⟩) (by show 2<=sizeLine;decide));show Q (some (.ref e4.objs.size)) ⟨e4.push {cls:=.type "tuple",data:=.seq #[x,y]},g,d,tk,os⟩;have t8:(e4.push {cls:=.type "tuple",data:=.seq #[x,y]}).get? e4.objs.size=some {cls:=.type "tuple",data:=.seq #[x,y]}:=dC _ rfl;have up:∀b o,b≠i->b≠j->e0.get? b=some o->(e4.push {cls:=.type "tuple",data:=.seq #[x,y]}).get? b=some o:=λb o b1 b2 u=>bC _ (s4.extBut b o b2 (s2.extBut b o b1 u));rw[sz]at t8⊢
    exact hQ _ ⟨f0,f1,hf,up _ _ D.iz.symm D.jz.symm zz⟩ ⟨_,_,up _ _ D.oi D.oj (s0.extBut _ _ D.oz yo)⟩ (k1 e2 _ a2 λo u=>bC _ (s4.extBut _ _ D.ij u)) (k2 e4 _ a4 λo u=>bC _ u) t8
      λb o b1 b2 b3 b4 u=>up b o b3 b4 (s0.extBut b o b1 u)
  | true =>
  show wpAny _ _ (rule _ >>= _) _ _ _;refine ah (wpAny_rule (ah (gc (s:=⟨e0,g,d,tk,os⟩) zz rfl (x:=.ref to) rfl ?_)));refine ah (nS zz (by simp) λe1 z1 s1=>?_);have s1:Heap.SameBut z hp e1:=s0.trans s1
  replace z1:Zp e1 z ti to .ellipsis f1:=z1
  refine ah ?_;simp only[List.zipIdx_cons,List.zipIdx_nil,tM,vn];refine ah (ah (wpAny_onRaise ?_));show wpAny _ _ (Builtin.SmallTypes.nextOf (.ref i) >>= _) _ _ _;refine ah (n1 e1 (λb o hb=>s1.extBut b o hb) _ _ λe2 a2 s2=>a7 ?_);have s2:Heap.SameBut i e1 e2:=s2;have o2:IsPair e2 to p q:=s2.extBut _ _ D.oi (s1.extBut _ _ D.oz yo);refine ah (nV o2 rfl ?_);refine ah (EO (s:=⟨e2,g,d,tk,os⟩) o2 λe3 o3 s3=>?_);have s3:Heap.SameBut to e2 e3:=s3
  replace o3:IsPair e3 to x q:=o3
  refine ah (wpAny_letGo (a7 ?_));refine ah (ah (wpAny_onRaise ?_));show wpAny _ _ (Builtin.SmallTypes.nextOf (.ref j) >>= _) _ _ _;refine ah (n2 e3 (λb o b1 b2 b3 u=>s3.extBut b o b2 (s2.extBut b o b3 (s1.extBut b o b1 u))) _ _ λe4 a4 s4=>a7 ?_);have s4:Heap.SameBut j e3 e4:=s4;have o4:IsPair e4 to x q:=s4.extBut _ _ D.oj o3;refine ah (nV o4 rfl ?_);refine ah (EO (s:=⟨e4,g,d,tk,os⟩) o4 λe5 o5 s5=>?_);have s5:Heap.SameBut to e4 e5:=s5
  replace o5:IsPair e5 to x y:=o5
  refine ah (wpAny_letGo (a7 (a7 ?_)));refine ah (nV o5 rfl ?_);refine ah (wpAny_newTuple ?_);have sz:e5.objs.size=hp.objs.size:=by rw[s5.1,s4.1,s3.1,s2.1,s1.1]
  have z5:Zp e5 z ti to .ellipsis f1:=s5.extBut _ _ D.oz.symm (s4.extBut _ _ D.jz.symm (s3.extBut _ _ D.oz.symm (s2.extBut _ _ D.iz.symm z1)))
  have Vd:∀b o,b≠z->b≠to->b≠i->b≠j->hp.get? b=some o->e5.get? b=some o:=λb o b1 b2 b3 b4 u =>
    s5.extBut _ _ b2 (s4.extBut _ _ b4 (s3.extBut _ _ b2 (s2.extBut _ _ b3 (s1.extBut _ _ b1 u))))
  have Ta:z<e5.objs.size:=bO z5;show wpAny _ _ (Builtin.SmallTypes.ownedTupleHandOut (.ref z) (.ref e5.objs.size) >>= _) _ _ _;refine ah ?_;unfold Builtin.SmallTypes.ownedTupleHandOut;have z6:Zp (e5.push {cls:=.type "tuple",data:=.seq #[x,y]}) z ti to .ellipsis f1:=bC _ z5;refine ah (nS z6 (by simp) λe7 z7 s7=>?_);have s7:Heap.SameBut z (e5.push {cls:=.type "tuple",data:=.seq #[x,y]}) e7:=s7
  replace z7:Zp e7 z ti to (rawInt e5.objs.size) f1:=z7
  refine nS (s:=⟨e7,g,d,tk,os⟩) z7 (by simp) λe8 z8 s8=>?_;have s8:Heap.SameBut z e7 e8:=s8
  replace z8:Zp e8 z ti to (rawInt e5.objs.size) (.bool false):=z8
  have up:∀b o,b≠z->e5.get? b=some o->e8.get? b=some o:=λb o b1 u=>s8.extBut _ _ b1 (s7.extBut _ _ b1 (bC _ u));have t8:e8.get? e5.objs.size=some {cls:=.type "tuple",data:=.seq #[x,y]}:=s8.extBut _ _ (Nat.ne_of_gt Ta) (s7.extBut _ _ (Nat.ne_of_gt Ta) (dC _ rfl));rw[sz]at z8 t8;refine a7 ⟨_,rfl,a7 ?_⟩;show Q (some (.ref e5.objs.size)) _;rw[sz]
  exact hQ e8 ⟨_,_,.inr ⟨_,rfl⟩,z8⟩ ⟨_,_,up _ _ D.oz o5⟩ (k1 e2 e8 a2 λo u=>up _ o D.iz (s5.extBut _ _ D.oi.symm (s4.extBut _ _ D.ij (s3.extBut _ _ D.oi.symm u)))) (k2 e4 e8 a4 λo u=>up _ o D.jz (s5.extBut _ _ D.oj.symm u)) t8
    λb o b1 b2 b3 b4 u=>up b o b1 (Vd b o b1 b2 b3 b4 u)
theorem AO {z ti to i j : Addr} {p q : Value} {st1 : Heap -> Prop} {Q : Option Value -> Shared -> Prop} (D : ZA z ti to i j) (zz : DV s.heap z ti to) (yi : IsPair s.heap ti (.ref i) (.ref j)) (yo : IsPair s.heap to p q)
    (n:(∀h',(∀b o,b≠z->s.heap.get? b=some o->h'.get? b=some o)->oF prog w A.in1 {s with heap:=h'} i) \/
      (∃x,(∀h',(∀b o,b≠z->s.heap.get? b=some o->h'.get? b=some o)->md prog w A.in1 {s with heap:=h'} i x st1) /\
        ∀h',(∀b o,b≠z->b≠to->b≠i->s.heap.get? b=some o->h'.get? b=some o)->oF prog w A.in1 {s with heap:=h'} j))
    (hQ:∀h',(∀b o,b≠z->b≠to->b≠i->b≠j->s.heap.get? b=some o->h'.get? b=some o)->Q none {s with heap:=h'}) :
    wpAny (model prog w) A (pyNext (.ref z)) Q E s:=by
  have Q2:=zz;obtain⟨f0,f1,hf,z0⟩:=Q2;have hT:s.TypeIs (.ref z) "zip" := ⟨_,z0,rfl⟩;obtain⟨hp,g,d,tk,os⟩:=s
  have fin : ∀ (h' : Heap) (e : Addr), (∀ b o, b ≠ z -> b ≠ to -> b ≠ i -> b ≠ j -> hp.get? b = some o -> h'.get? b = some o) -> (∃ o, h'.get? e = some o /\ o.cls = .type "StopIteration") ->
      wpAny (model prog w) A (do if <- isInstance (.ref e) (.type "StopIteration") then pure none else throw (.ref e)) Q E ⟨h',g,d,tk,os⟩:=λh' e hk ⟨o,ho,hc⟩ =>
    ah (wpAny_isInstance (T := "StopIteration") (b:=true) ⟨o,ho,hc⟩ isSubtype_stop (a7 (hQ h' hk)))
  unfold pyNext;refine ah (wpAny_attempt (tq (name:=Str.ofString "__next__") hT vj (pT vj hT F.entry_zip_next ?_ (F.args_zip_next_1 _))));show wpAny _ _ (field (.ref z) 2 >>= _) _ _ _;refine ah (gc z0 rfl (x:=.bool false) rfl ?_);show wpAny _ _ (field (.ref z) 3 >>= _) _ _ _;refine ah (gc z0 rfl (x:=.ref ti) rfl ?_);refine ah (nV yi rfl ?_);show wpAny _ _ (Builtin.SmallTypes.ownedTupleIsFree (.ref z) >>= _) _ _ _;refine ah (kc (s:=⟨hp,g,d,tk,os⟩) zz λfr e0 zz s0=>?_);have s0:Heap.SameBut z hp e0:=s0;clear z0 hf f0 f1;obtain⟨f0,f1,hf,zz⟩:=zz
  cases fr with
  | false =>
    refine ah ?_;simp only[List.forIn_toArray,tM,vn];refine ah (ah (mF ?_));show wpAny _ _ (Builtin.SmallTypes.nextOf (.ref i) >>= _) _ _ _;rcases n with n | ⟨x,n1,n2⟩
    · refine ah (n e0 (λb o hb=>s0.extBut b o hb) _ _ λe2 e s2 he=>?_);have s2:Heap.ExtBut i e0 e2:=s2;exact fin e2 e (λb o b1 b2 b3 b4 u=>s2 _ _ b3 (s0.extBut _ _ b1 u)) he
    · refine ah (n1 e0 (λb o hb=>s0.extBut b o hb) _ _ λe2 a2 s2=>a7 (a7 ?_));have s2:Heap.SameBut i e0 e2:=s2;refine ah (ah (mF ?_));show wpAny _ _ (Builtin.SmallTypes.nextOf (.ref j) >>= _) _ _ _;refine ah (n2 e2 (λb o b1 b2 b3 u=>s2.extBut b o b3 (s0.extBut b o b1 u)) _ _ λe4 e s4 he=>?_);have s4:Heap.ExtBut j e2 e4:=s4;exact fin e4 e (λb o b1 b2 b3 b4 u=>s4 _ _ b4 (s2.extBut _ _ b3 (s0.extBut _ _ b1 u))) he
  | true =>
  show wpAny _ _ (rule _ >>= _) _ _ _;refine ah (wpAny_rule (ah (gc (s:=⟨e0,g,d,tk,os⟩) zz rfl (x:=.ref to) rfl ?_)));refine ah (nS zz (by simp) λe1 z1 s1=>?_);have s1:Heap.SameBut z hp e1:=s0.trans s1
  replace z1:Zp e1 z ti to .ellipsis f1:=z1
  refine ah ?_;simp only[List.zipIdx_cons,List.zipIdx_nil,tM,vn];refine ah (ah (wpAny_onRaise ?_));show wpAny _ _ (Builtin.SmallTypes.nextOf (.ref i) >>= _) _ _ _;rcases n with n | ⟨x,n1,n2⟩
  · refine ah (n e1 (λb o hb=>s1.extBut b o hb) _ _ λe2 e s2 he=>?_);have s2:Heap.ExtBut i e1 e2:=s2;obtain⟨oe,ge,ce⟩:=he;have ge:e2.get? e=some oe:=ge;have z2:Zp e2 z ti to .ellipsis f1:=s2 _ _ D.iz.symm z1;have ez:e≠z:=λu=>by subst u;rw[z2]at ge;cases ge;simp at ce
    refine nS (s:=⟨e2,g,d,tk,os⟩) z2 (by simp) λe3 _ s3=>?_;have s3:Heap.SameBut z e2 e3:=s3;exact fin e3 e (λb o b1 b2 b3 b4 u=>s3.extBut _ _ b1 (s2 _ _ b3 (s1.extBut _ _ b1 u))) ⟨oe,s3.extBut _ _ ez ge,ce⟩
  · refine ah (n1 e1 (λb o hb=>s1.extBut b o hb) _ _ λe2 a2 s2=>a7 ?_);have s2:Heap.SameBut i e1 e2:=s2;have o2:IsPair e2 to p q:=s2.extBut _ _ D.oi (s1.extBut _ _ D.oz yo);refine ah (nV o2 rfl ?_);refine ah (EO (s:=⟨e2,g,d,tk,os⟩) o2 λe3 o3 s3=>?_);have s3:Heap.SameBut to e2 e3:=s3;refine ah (wpAny_letGo (a7 ?_));refine ah (ah (wpAny_onRaise ?_));show wpAny _ _ (Builtin.SmallTypes.nextOf (.ref j) >>= _) _ _ _;refine ah (n2 e3 (λb o b1 b2 b3 u=>s3.extBut b o b2 (s2.extBut b o b3 (s1.extBut b o b1 u))) _ _ λe4 e s4 he=>?_);have s4:Heap.ExtBut j e3 e4:=s4;obtain⟨oe,ge,ce⟩:=he;have ge:e4.get? e=some oe:=ge;have z4:Zp e4 z ti to .ellipsis f1:=s4 _ _ D.jz.symm (s3.extBut _ _ D.oz.symm (s2.extBut _ _ D.iz.symm z1));have ez:e≠z:=λu=>by subst u;rw[z4]at ge;cases ge;simp at ce
    refine nS (s:=⟨e4,g,d,tk,os⟩) z4 (by simp) λe5 _ s5=>?_;have s5:Heap.SameBut z e4 e5:=s5;exact fin e5 e (λb o b1 b2 b3 b4 u=>s5.extBut _ _ b1 (s4 _ _ b4 (s3.extBut _ _ b2 (s2.extBut _ _ b3 (s1.extBut _ _ b1 u))))) ⟨oe,s5.extBut _ _ ez ge,ce⟩
end
def Q3(K:PySem.W.Frag)(l m:Bool)(a b:Addr):It :=
  ⟨λi H=>∃xs ys x y,nL K H l a xs/\nL K H m b ys/\xs[i]?=some x/\ys[i]?=some y,
   λi H v H'=>∃p x y,v=.ref p/\H p=none/\H'=bw H p (.tup [x,y])/\(∀xs,nL K H l a xs->xs[i]?=some x)/\∀ys,nL K H m b ys->ys[i]?=some y,
   λi H=>∃xs ys,nL K H l a xs/\nL K H m b ys/\(xs.length<=i\/ys.length<=i)⟩
section
variable {X:Cx} {pins:List (Addr×Obj)} {σ:St} {H:Hp} {s:Shared}
theorem m_{A:Around}{l:Bool}{a it:Addr}{i:Nat}{xs:List V}{x:V}(I:Inv X pins σ H s)(hq:nL X.K H l a xs)(h2:ia l s.heap it a i)(hx:xs[i]?=some x):(∃u,RelV x u/\∀h',(∀o,s.heap.get? a=some o->h'.get? a=some o)->(∀o,s.heap.get? it=some o->h'.get? it=some o)->md X.prog X.w A {s with heap:=h'} it u (λh=>ia l h it a (i+1)))/\∀ys,nL X.K H l a ys->ys[i]?=some x:=by
 cases l with
 | true =>
  have hq:d5 X.K H a xs:=hq;obtain⟨ax,rv,p,hz⟩:=I.list hq;obtain⟨u,hu,ru⟩:=rv.get hx;exact⟨⟨u,ru,λh' e1 e2=>qg (s:={s with heap:=h'}) (Heap.IsListIter.at (show s.heap.IsListIter it a i from h2) e2) (p.isList.at e1) (by simpa using hu)⟩,λys hy=>by rw[I.n_ (show d5 X.K H a ys from hy) hq];exact hx⟩
 | false =>
  have hq:eJ X.K H a xs:=hq;obtain⟨ax,rv,p,hz⟩:=I.tuple hq;obtain⟨u,hu,ru⟩:=rv.get hx;have p:s.heap.IsTuple a ax.toArray:=p;exact⟨⟨u,ru,λh' e1 e2=>ur (s:={s with heap:=h'}) (Heap.IsTupleIter.at (show s.heap.IsTupleIter it a i from h2) e2) (p.at e1) (by simpa using hu)⟩,λys hy=>by rw[I.lV (show eJ X.K H a ys from hy) hq];exact hx⟩
theorem rF{A:Around}{l:Bool}{a it:Addr}{i:Nat}{xs:List V}(hh:A.handled=none)(I:Inv X pins σ H s)(hq:nL X.K H l a xs)(h2:ia l s.heap it a i)(hx:xs.length<=i):∀h',(∀o,s.heap.get? a=some o->h'.get? a=some o)->(∀o,s.heap.get? it=some o->h'.get? it=some o)->oF X.prog X.w A {s with heap:=h'} it:=by
 cases l with
 | true =>
  obtain⟨ax,rv,p,hz⟩:=I.list (show d5 X.K H a xs from hq);have hl:=rv.length;exact λh' e1 e2=>qh (s:={s with heap:=h'}) hh (Heap.IsListIter.at (show s.heap.IsListIter it a i from h2) e2) (p.isList.at e1) (by simp;omega)
 | false =>
  obtain⟨ax,rv,p,hz⟩:=I.tuple (show eJ X.K H a xs from hq);have hl:=rv.length;have p:s.heap.IsTuple a ax.toArray:=p;exact λh' e1 e2=>uu (s:={s with heap:=h'}) hh (Heap.IsTupleIter.at (show s.heap.IsTupleIter it a i from h2) e2) (p.at e1) (by simp;omega)
end
theorem xO{P:Program}{w:World}{K:PySem.W.Frag}{tg:Expr}(l m:Bool)(a b z ti to i j:Addr)(D:ZA z ti to i j)(ha:a≠z)(hb:b≠z/\b≠to/\b≠i):pY P w K tg (Q3 K l m a b) [z,ti,to,i,j] z (λn h=>DV h z ti to/\IsPair h ti (.ref i) (.ref j)/\(∃p q,IsPair h to p q)/\ia l h i a n/\ia m h j b n) where
 mem:=by simp
 obj:=λn h st c hc=>by
  rcases st with⟨⟨_,_,_,h1⟩,h2,⟨p,q,h3⟩,h4,h5⟩;have hc:c=z\/c=ti\/c=to\/c=i\/c=j:=by simpa using hc
  rcases hc with rfl | rfl | rfl | rfl | rfl
  ·exact⟨_,h1,λv u=>by have u':Data.fields _=Data.cell v:=u;cases u'⟩
  ·exact⟨_,h2,λv u=>by have u':Data.seq _ _=Data.cell v:=u;cases u'⟩
  ·exact⟨_,h3,λv u=>by have u':Data.seq _ _=Data.cell v:=u;cases u'⟩
  ·obtain⟨o,q,d⟩:=h4.obj;exact⟨o,q,λv u=>by rw[d]at u;cases u⟩
  ·obtain⟨o,q,d⟩:=h5.obj;exact⟨o,q,λv u=>by rw[d]at u;cases u⟩
 keep:=λn h h' st e=>by
  obtain⟨⟨f0,f1,hf,h1⟩,h2,⟨p,q,h3⟩,h4,h5⟩:=st;exact⟨⟨f0,f1,hf,e z (by simp) _ h1⟩,e ti (by simp) _ h2,⟨p,q,e to (by simp) _ h3⟩,h4.at λo u=>e i (by simp) o u,h5.at λo u=>e j (by simp) o u⟩
 item:=by
  intro X hP hw hK hc n pins s σ H E I hf st hg;subst hP hw hK;obtain⟨h1,h2,⟨p,q,h3⟩,h4,h5⟩:=st;obtain⟨xs,ys,x,y,qx,qy,hx,hy⟩:=hg;obtain⟨⟨u,ru,nu⟩,au⟩:=m_ (A:=X.A.in1) I qx h4 hx;obtain⟨⟨v,rv,nv⟩,av⟩:=m_ (A:=X.A.in1) I qy h5 hy;obtain⟨oi,gi,_⟩:=h4.obj;obtain⟨oj,gj,_⟩:=h5.obj;refine xN D h1 h2 h3 (λh' e=>nu h' (λo=>e a o ha) λo=>e i o D.iz) (λh' e=>nv h' (λo=>e b o hb.1 hb.2.1 hb.2.2) λo=>e j o D.jz D.oj.symm D.ij.symm) (λh h' st e=>st.at e) (λh h' st e=>st.at e) λh' o1 o2 o3 o4 o5 o6=>⟨_,rfl,?_⟩;refine Gn (s:={s with heap:=h'}) o1 λQ4 p1 p2=>?_;have p2:Heap.SameBut z h' Q4:=p2;have fr:H s.heap.objs.size=none:=I.bc.fresh (a6 _)
  have I1:Inv X pins σ (bw H s.heap.objs.size (.tup [x,y])) {s with heap:=s.heap.push {cls:=.type "tuple",data:=.seq #[u,v]}} :=
   I.laid (t':=s.toks) (λc o e=>bC _ e) (a6 _) ⟨by show 2<=sizeLine;decide,[u,v],.cons ru (.cons rv .nil),⟨_,dC _ rfl,rfl,0,rfl⟩⟩
  have ne:∀c∈[z,ti,to,i,j],c≠s.heap.objs.size:=λc hc=>by
   have hc:c=z\/c=ti\/c=to\/c=i\/c=j:=by simpa using hc
   rcases hc with rfl | rfl | rfl | rfl | rfl
   ·obtain⟨_,_,_,h1⟩:=h1;exact eM (bO h1)
   ·exact eM (bO h2)
   ·exact eM (bO h3)
   ·exact eM (bO gi)
   ·exact eM (bO gj)
  have Tb:∀c∈[z,ti,to,i,j],jx X pins (bw H s.heap.objs.size (.tup [x,y])) c:=λc hc=>⟨by rw[ar (ne c hc)];exact(hf c hc).1,(hf c hc).2⟩
  have I2:=I1.rE (h':=Q4) (t':=s.toks) (ch:=[z,ti,to,i,j]) (λc o hc e=>by
   have pW:c≠z/\c≠ti/\c≠to/\c≠i/\c≠j:=by simpa using hc
   refine p2.extBut c o pW.1 ?_;by_cases hz:c=s.heap.objs.size
   ·subst hz;have e':(s.heap.push {cls:=.type "tuple",data:=.seq #[u,v]}).get? s.heap.objs.size=some _:=dC _ rfl;rw[e']at e;cases e;exact o5
   ·have e2:s.heap.get? c=some o:=by
     cases hs:s.heap.get? c with
     | some o'=>rw[bC _ hs]at e;exact e
     | none=>exact absurd e (by rw[oG hz,hs];intro z;cases z)
    exact o6 c o pW.1 pW.2.2.1 pW.2.2.2.1 pW.2.2.2.2 e2) Tb
  have up:∀c o,c≠z->h'.get? c=some o->Q4.get? c=some o:=λc o hc e=>p2.extBut c o hc e;exact⟨.ref s.heap.objs.size,_,I2,rfl,⟨s.heap.objs.size,x,y,rfl,fr,rfl,au,av⟩,⟨p1,up _ _ D.tz (o6 _ _ D.tz D.tt D.di D.dj h2),o2.imp λ_=>.imp λ_=>up _ _ D.oz,o3.at λo e=>up _ _ D.iz e,o4.at λo e=>up _ _ D.jz e⟩,λc hc=>(Tb c hc).1⟩
 done:=by
  intro X hP hw hK hc n pins s σ H E I hf st hg;subst hP hw hK;obtain⟨h1,h2,⟨p,q,h3⟩,h4,h5⟩:=st;obtain⟨xs,ys,qx,qy,hx⟩:=hg;have hh:X.A.in1.handled=none:=I.ok.hd hc
  have fin:∀h',(∀c o,c≠z->c≠to->c≠i->c≠j->s.heap.get? c=some o->h'.get? c=some o)->(none:Option Value)=none/\Inv X pins σ H {s with heap:=h'}:=λh' e=>⟨rfl,I.rE (t':=s.toks) (ch:=[z,ti,to,i,j]) (λc o hc u=>by
   have pW:c≠z/\c≠ti/\c≠to/\c≠i/\c≠j:=by simpa using hc
   exact e c o pW.1 pW.2.2.1 pW.2.2.2.1 pW.2.2.2.2 u) hf⟩
  refine AO (st1:=λh=>ia l h i a (n+1)) D h1 h2 h3 ?_ λh' e=>fin h' e;by_cases hl:xs.length<=n
  ·exact .inl λh' e=>rF hh I qx h4 hl h' (λo=>e a o ha) λo=>e i o D.iz
  ·have Ve:n<xs.length:=∅;obtain⟨⟨u,ru,nu⟩,au⟩:=m_ (A:=X.A.in1) I qx h4 (jq Ve);exact .inr ⟨u,λh' e=>nu h' (λo=>e a o ha) λo=>e i o D.iz,λh' e=>rF hh I qy h5 ∅ h' (λo=>e b o hb.1 hb.2.1 hb.2.2) λo=>e j o D.jz D.oj.symm D.ij.symm⟩
 self:=λA n s Q E ⟨⟨_,_,_,hz⟩,_⟩ h=>by
  have hT:s.TypeIs (.ref z) "zip" := ⟨_,hz,rfl⟩;refine wpAny_pyIter_slot hT F.slot_zip_iter (pT F.slot_zip_iter hT F.entry_zip_iter ?_ (F.args_zip_iter_1 _));show wpAny _ _ (ret (.ref z)) _ _ s;exact a7 ⟨_,rfl,"zip",_,hT,vj.lookup,h⟩
end L2
end
section
namespace L2
open PySem PySem.Spec PyProof.Rows
abbrev Q5(l:Bool)(a:Addr):Obj:={cls:=.type (if l=true then "list_iterator" else "tuple_iterator"),data:=.fields #[.ref a,.int 0 0]}
noncomputable def MA(l:Bool)(h:Heap)(a:Addr)(xs:Array Value):Prop:=if l=true then h.IsList a xs else h.IsTuple a xs
abbrev O4(h:Heap)(l:Bool)(a:Addr):Heap:=h.push (Q5 l a)
abbrev O5(h:Heap)(l m:Bool)(a b:Addr):Heap:=(O4 h l a).push (Q5 m b)
abbrev O6(h:Heap)(l m:Bool)(a b:Addr):Heap:=(O5 h l m a b).push {cls:=.type "tuple",data:=.seq #[.ref h.objs.size,.ref (O4 h l a).objs.size]}
abbrev O7(h:Heap)(l m:Bool)(a b:Addr):Heap:=(O6 h l m a b).push {cls:=.type "tuple",data:=.seq #[.none,.none]}
abbrev Jg(h:Heap)(l m:Bool)(a b:Addr):Heap:=(O7 h l m a b).push {cls:=.type "zip",data:=.fields #[.none,.bool false,.bool false,.ref (O5 h l m a b).objs.size,.ref (O6 h l m a b).objs.size]}
theorem uv(l m:Bool)(a b:Addr)(xs ys:Array Value):Meets (Builtin.«zip.__new__» ⟨[.type "zip",.ref a,.ref b],[]⟩) (λ_ R s=>MA l s.heap a xs/\MA m s.heap b ys/\R (.ok (.ret (.ref (O7 s.heap l m a b).objs.size))) {s with heap:=Jg s.heap l m a b}) :=
 .of_wp λprog w A R s h=>by
  obtain⟨hp,g,d,tk,os⟩:=s;obtain⟨ha,hb,h⟩:=h;have Vf:=sub_zip;have keep:∀(o:Obj) c v,hp.get? c=some v->(hp.push o).get? c=some v:=λo c v e=>bC _ e
  cases l with
  | true =>
   have h1:Heap.IsList (Shared.heap ⟨hp,g,d,tk,os⟩) a xs:=ha
   cases m with
   | true =>
    have h2:Heap.IsList (Shared.heap ⟨hp.push {cls:=.type "list_iterator",data:=.fields #[.ref a,.int 0 0]},g,d,tk,os⟩) b ys:=(show hp.IsList b ys from hb).at λo e=>keep _ _ _ e
    wp_walk using tH h1,tH h2
    exact⟨_,rfl,h⟩
   | false =>
    have h2:Heap.IsTuple (Shared.heap ⟨hp.push {cls:=.type "list_iterator",data:=.fields #[.ref a,.int 0 0]},g,d,tk,os⟩) b ys:=(show hp.IsTuple b ys from hb).at λo e=>keep _ _ _ e
    wp_walk using tH h1,tF h2
    exact⟨_,rfl,h⟩
  | false =>
   have h1:Heap.IsTuple (Shared.heap ⟨hp,g,d,tk,os⟩) a xs:=ha
   cases m with
   | true =>
    have h2:Heap.IsList (Shared.heap ⟨hp.push {cls:=.type "tuple_iterator",data:=.fields #[.ref a,.int 0 0]},g,d,tk,os⟩) b ys:=(show hp.IsList b ys from hb).at λo e=>keep _ _ _ e
    wp_walk using tF h1,tH h2
    exact⟨_,rfl,h⟩
   | false =>
    have h2:Heap.IsTuple (Shared.heap ⟨hp.push {cls:=.type "tuple_iterator",data:=.fields #[.ref a,.int 0 0]},g,d,tk,os⟩) b ys:=(show hp.IsTuple b ys from hb).at λo e=>keep _ _ _ e
    wp_walk using tF h1,tF h2
    exact⟨_,rfl,h⟩
section
variable {prog:Program} {w:World} {A:Around} {E:Value->Shared->Prop} {s:Shared}
theorem oH{l:Bool}{h:Heap}{it a:Addr}(e:h.get? it=some (Q5 l a)):ia l h it a 0:=by
 cases l with
 | true=>exact⟨_,e,rfl,rfl⟩
 | false=>exact⟨_,e,rfl,rfl⟩
theorem xP {l m : Bool} {a b : Addr} {xs ys : Array Value} {Q : Value -> Shared -> Prop} (ha : MA l s.heap a xs) (hb : MA m s.heap b ys)
    (h:∀h',IsZip h' (s.heap.objs.size+4) (s.heap.objs.size+2) (s.heap.objs.size+3) .none->IsPair h' (s.heap.objs.size+2) (.ref s.heap.objs.size) (.ref (s.heap.objs.size+1))->IsPair h' (s.heap.objs.size+3) .none .none ->
      ia l h' s.heap.objs.size a 0->ia m h' (s.heap.objs.size+1) b 0->(∀c o,s.heap.get? c=some o->h'.get? c=some o)->Q (.ref (s.heap.objs.size+4)) {s with heap:=h'}) :
    wpAny (model prog w) A (call (.type "zip") [.ref a,.ref b]) Q E s:=by
  refine callType_new F.called_zip (by decide) (F.typeCall_zip_2 _ _) (F.newCall_zip_2 _ _) (λobj=>F.args_object_init_3 obj _ _) F.entry_zip_new (uv l m a b xs ys) ⟨ha,hb,?_⟩;have n1:(O4 s.heap l a).objs.size=s.heap.objs.size+1:=jV ..;have n2:(O5 s.heap l m a b).objs.size=s.heap.objs.size+2:=by rw[jV,n1]
  have n3:(O6 s.heap l m a b).objs.size=s.heap.objs.size+3:=by rw[jV,n2]
  have n4:(O7 s.heap l m a b).objs.size=s.heap.objs.size+4:=by rw[jV,n3]
  have e5:(Jg s.heap l m a b).get? (O7 s.heap l m a b).objs.size=some _:=dC _ rfl;have e4:(Jg s.heap l m a b).get? (O6 s.heap l m a b).objs.size=some _:=bC _ (dC _ rfl);have e3:(Jg s.heap l m a b).get? (O5 s.heap l m a b).objs.size=some _:=bC _ (bC _ (dC _ rfl));have e2:(Jg s.heap l m a b).get? (O4 s.heap l a).objs.size=some _:=bC _ (bC _ (bC _ (dC _ rfl)));have e1:(Jg s.heap l m a b).get? s.heap.objs.size=some _:=bC _ (bC _ (bC _ (bC _ (dC _ rfl))));show _/\_;rw[n2,n3,n4]at e5;rw[n1,n2]at e3;rw[n3]at e4;rw[n1]at e2;rw[n4];exact⟨⟨_,e5,rfl⟩,h _ e5 e3 e4 (oH e1) (oH e2) λc o u=>bC _ (bC _ (bC _ (bC _ (bC _ u))))⟩
end
section
variable {X:Cx}
def Q6(K:PySem.W.Frag)(ta:TA):TI:=λσ H R=>ta σ H λvs H1=>∃(l m:Bool) (a b:Addr),vs=[.ref a,.ref b]/\(∃xs,nL K H1 l a xs)/\(∃ys,nL K H1 m b ys)/\R (Q3 K l m a b) H1
theorem xQ{pins:List (Addr×Obj)}{σ:St}{H:Hp}{s:Shared}{l:Bool}{a:Addr}{xs:List V}(I:Inv X pins σ H s)(h:nL X.K H l a xs):∃ax:Array Value,MA l s.heap a ax/\a<s.heap.objs.size:=by
 cases l with
 | true =>
  obtain⟨ax,_,p,_⟩:=I.list (show d5 X.K H a xs from h);exact⟨ax.toArray,p.isList,by obtain⟨o,e,_⟩:=p.isList;exact bO e⟩
 | false =>
  obtain⟨ax,_,p,_⟩:=I.tuple (show eJ X.K H a xs from h);exact⟨ax.toArray,p,by obtain⟨o,e,_⟩:=(show s.heap.IsTuple a ax.toArray from p);exact bO e⟩
theorem MB{n:Nat}:ZA (n+4) (n+2) (n+3) n (n+1) :=
 ⟨(by omega:(n+2:Nat)≠n+4),(by omega:(n+3:Nat)≠n+4),(by omega:(n:Nat)≠n+4),(by omega:(n+1:Nat)≠n+4),(by omega:(n+2:Nat)≠n+3),(by omega:(n+2:Nat)≠n),(by omega:(n+2:Nat)≠n+1),(by omega:(n+3:Nat)≠n),(by omega:(n+3:Nat)≠n+1),(by omega:(n:Nat)≠n+1)⟩
theorem xR{n c:Nat}(h:c∈[n+4,n+2,n+3,n,n+1]):n<=c:=by
 simp only[bF,List.mem_nil_iff,gD]at h;omega
theorem rG{a n k:Nat}(h:a<n):a≠n+k:=∅
theorem Go{a b:Expr}{ta:TA}{tg:Expr}{p pos:Pos} (hg:Gl X "zip") (hm:X.mg "zip" = none) (ha:PA X [a,b] ta) (hs:starEach [a,b] X.env=(false,eval a X.env)::starEach [b] X.env) (wV:starEach [b] X.env=[(false,eval b X.env)]):PI X tg (.Call (.Name "zip" p) [a,b] [] pos) (Q6 X.K ta):=by
 intro pins s σ H R I h;refine Call_ (iK I hg hm boot_zip (zO (bP (ha pos pins s σ H _ I h) ?_) hs (by rw[wV];rfl)));rintro us s1 ⟨vs,H1,I1,r1,q1⟩;obtain⟨l,m,c,d,rfl,⟨xs,hx⟩,⟨ys,hy⟩,q⟩:=q1;obtain⟨u1,u2,rfl,ru,MC⟩:=vals2 r1;cases ru;cases MC;obtain⟨ix,sx,lx⟩:=xQ I1 hx;obtain⟨iy,sy,ly⟩:=xQ I1 hy;refine xP sx sy λh' e1 e2 e3 e4 e5 e6=>?_;refine wpAny_pyIter_zip (s:={s1 with heap:=h'}) e1 ?_;have I2:Inv X pins σ H1 {s1 with heap:=h'}:=I1.kept (t':=s1.toks) e6;exact⟨s1.heap.objs.size+4,[s1.heap.objs.size+4,s1.heap.objs.size+2,s1.heap.objs.size+3,s1.heap.objs.size,s1.heap.objs.size+1],_,_,H1,rfl,I2,xO l m c d _ _ _ _ _ MB (rG lx) ⟨rG ly,rG ly,rG (k:=0) ly⟩,⟨⟨_,_,.inl rfl,e1⟩,e2,⟨_,_,e3⟩,e4,e5⟩,λc hc=>I1.wR (xR hc) (I1.bc.fresh (xR hc)),q⟩
end
end L2
end
section
namespace L2
open PySem PySem.Spec PyProof.Rows
open PySem.AutoSeq1 (wpAny_loadPart')
end L2
end
section
namespace L2
open PySem PySem.Spec PyProof.Rows
end L2
end
section
namespace L2
open PySem PySem.Spec PyProof.Rows
end L2
end
section
namespace L2
open PySem PySem.Spec PyProof.Rows
end L2
end
section
namespace L2
open PySem PySem.Spec PyProof.Rows
end L2
end
section
namespace L2
open PySem PySem.Spec PyProof.Rows
end L2
end
section
namespace L2
open PySem PySem.Spec PyProof.Rows
end L2
end
section
namespace L2
open PySem PySem.Spec PyProof.Rows
end L2
end
section
namespace L2
open PySem PySem.Spec PyProof.Rows
end L2
end
section
namespace L2
open PySem PySem.Spec PyProof.Rows
end L2
end
section
namespace L2
open PySem PySem.Spec PyProof.Rows
section
variable {X:Cx} {tg:Expr}
noncomputable def MD(i:Int):List Int->List Int
 | []=>[i]
 | j::js=>if i<=j then i::j::js else j::MD i js
def Gp:List Int->List Int
 | []=>[]
 | i::is=>MD i (Gp is)
end
end L2
end
section
namespace L2
open PySem PySem.Spec PyProof.Rows
end L2
end
section
namespace L2
open PySem PySem.Spec PyProof.Rows
end L2
end
section
namespace L2
open PySem PySem.Spec PyProof.Rows
end L2
end
section
namespace L2
open PySem PySem.Spec PyProof.Rows
end L2
end
section
namespace L2
open PySem PySem.Spec PyProof.Rows
end L2
end
section
namespace TS
open PySem PyProof PyProof.Rows
section
variable {prog:Program} {w:World} {A:Around} {E:Value->Shared->Prop} {s:Shared} {κ:SortKind} {ky:Keyed->Int} {G:Keyed->Prop}
noncomputable def KX(ky:Keyed->Int)(xs:Array Keyed)(i:Nat):Int:=match xs[i]? with
 | some p=>ky p
 | none=>0
end
end TS
end
section
namespace TS
open PySem PyProof PyProof.Rows
noncomputable def Fn(ky:Keyed->Int)(a b r:Array Keyed):Prop:=r.toList.Perm (a.toList++b.toList)/\r.toList.Pairwise (λx y=>ky x<=ky y)
end TS
end
section
namespace TS
open PySem PyProof PyProof.Rows
end TS
end
section
namespace TS
open PySem PyProof PyProof.Rows
structure Sp (κ:SortKind) (lo:Nat) (st lX:SortSt):Prop where
 kind:kindOf lX=κ
 pend:pendingOf lX=pendingOf st
 fail:failedOf lX=failedOf st
 perm:(arrOf lX).Perm (arrOf st)
 pre:∀i,i<lo->(arrOf lX)[i]?=(arrOf st)[i]?
section
variable {ky:Keyed->Int} {G:Keyed->Prop} {κ:SortKind} {lo:Nat} {st lX:SortSt}
theorem Sp.size(h:Sp κ lo st lX):(arrOf lX).size=(arrOf st).size:=h.perm.size_eq
end
end TS
end
section
namespace TS
open PySem PyProof PyProof.Rows
end TS
end
section
namespace TS
open PySem PyProof PyProof.Rows
end TS
end
section
namespace L2
open PySem PySem.Spec PyProof.Rows
noncomputable def Gq(h:Heap)(v:Value)(k:Int×Int):Prop:=∃ad ob t u n,v=.ref ad/\h.get? ad=some ob/\ob.cls=.type "tuple" /\ ob.data=.seq #[.int k.1 t,.int k.2 u] n
def Q7(a b:Int×Int):Prop:=a.1<b.1\/a.1=b.1/\a.2<b.2
instance {a b:Int×Int}:Decidable (Q7 a b):=inferInstanceAs (Decidable (_\/_))
theorem Gq.one{h:Heap}{v:Value}{k j:Int×Int}(x:Gq h v k)(y:Gq h v j):k=j:=by
 obtain⟨a,o,t,u,n,rfl,h1,h2,h3⟩:=x;obtain⟨a',o',t',u',n',e,Tc,Xz,Td⟩:=y;cases e;rw[h1]at Tc;cases Tc;rw[h3]at Td;injection Td with e1 e2;have:=jt Array.toList e1;simp only[List.cons.injEq,Value.int.injEq,and_true]at this;exact Prod.ext this.1.1 this.2.1
theorem Gq.keep{h h':Heap}{v:Value}{k:Int×Int}(x:Gq h v k)(e:∀b o,h.get? b=some o->h'.get? b=some o):Gq h' v k:=by
 obtain⟨a,o,t,u,n,h0,h1,h2⟩:=x;exact⟨a,o,t,u,n,h0,e _ _ h1,h2⟩
section
variable {prog:Program} {w:World} {A:Around} {E:Value->Shared->Prop} {s:Shared}
open Classical in
end
end L2
end
section
namespace L2
open PySem PySem.Spec PyProof.Rows
end L2
end
section
namespace L2
open PySem PySem.Spec PyProof.Rows
noncomputable def ME(x:Int×Int):List (Int×Int)->List (Int×Int)
 | []=>[x]
 | y::ys=>if Q7 x y then x::y::ys else y::ME x ys
def MF:List (Int×Int)->List (Int×Int)
 | []=>[]
 | x::xs=>ME x (MF xs)
abbrev Te(k:Int×Int):HO:=.tup [.int k.1,.int k.2]
section
variable {X:Cx}
theorem gm.t2{P:Program}{w:World}{H:Hp}{h:Heap}(x:gm P w H h){b:Addr}{k:Int×Int}(e:H b=some (Te k)):Gq h (.ref b) k:=by
 obtain⟨_,ax,vs,o,ho,hc,n,hd⟩:=(show bh P w H h b (Te k) from x b _ e)
 cases vs with
 | cons r1 t =>
  cases t with
  | cons r2 t =>
   cases t;obtain⟨t1,rfl⟩:=r1;obtain⟨t2,rfl⟩:=r2;exact⟨b,o,t1,t2,n,rfl,ho,hc,hd⟩
end
end L2
end
section
namespace L2
open PySem PySem.Spec PyProof.Rows
end L2
end
section
namespace L2
open PySem PySem.Spec PyProof.Rows
end L2
end
section
namespace L2
open PySem PySem.Spec PyProof.Rows
end L2
end
section
namespace L2
open PySem PySem.Spec PyProof.Rows
end L2
end
section
namespace L2
open PySem PySem.Spec PyProof.Rows
end L2
end
section
namespace L2
open PySem PySem.Spec PyProof.Rows
open Builtin Builtin.ObjectAttr
end L2
end
section
namespace L2
open PySem PySem.Spec PyProof.Rows
open Builtin Builtin.ObjectAttr
end L2
end
section
namespace L2
open PySem PySem.Spec PyProof.Rows
open Builtin Builtin.ObjectAttr
end L2
end
section
namespace L2
open PySem PySem.Spec PyProof.Rows
open Builtin Builtin.ObjectAttr
end L2
end
section
namespace L2
open PySem PySem.Spec PyProof.Rows
end L2
end
section
namespace L2
open PySem PySem.Spec PyProof.Rows
section
variable {X:Cx} {pins:List (Addr×Obj)} {σ:St} {H:Hp} {s:Shared}
def uw(P:Program)(w:World):ue:=λ_ _ _ _ _ _=>False
structure rH (X:Cx) (E:XK):Prop where
 own:PassesOwn (model X.prog X.w) X.A X.env X.xe
theorem rH.pass{E:XK}(p:rH X E):mQ (uw X.prog X.w) X E:=λ_ _ _ _ _ _ _ h=>h.elim
end
theorem na{P:Program}{w:World}{K:PySem.W.Frag}{mg:Str->Option Value}{base:Heap}{N:List Str}{qual:Str}{scope:Scope}{f:Addr}{cd:Value}{A:Around}{outer:List Env}{dg:Shared}{H₀:Hp}{E:XK}:rH (p9 (uw P w) P w K mg base N qual scope f cd A outer dg H₀ E) E where
 own:=PassesOwn.leaving
end L2
end
section
namespace L2
open PySem PySem.Spec PyProof.Rows
noncomputable def O8(K:PySem.W.Frag)(C D fI:Addr)(fs:List Str):Prop:=K=K/\C=D/\fI=fI/\fs=fs
noncomputable def X0(a C:Addr):HO:=.ext λh=>∃oe t,h.get? a=some oe/\oe.cls=.ref C/\oe.dict=none/\oe.data=.fields #[.ref t,.none,.none,.none,.bool false,.none]
noncomputable def X1(a C dx:Addr):HO:=.ext λh=>∃oe t,h.get? a=some oe/\oe.cls=.ref C/\oe.dict=some dx/\oe.data=.fields #[.ref t,.none,.none,.none,.bool false,.none]
def Tf(K:PySem.W.Frag)(C D fI:Addr)(fs:List Str):Sp:=λvs H Q _=>∃a ys,vs=.ref a::ys/\ys.length=fs.length/\H a=some (X0 a C)/\O8 K C D fI fs/\∀dx,H dx=none->dx≠a->Q .br (bw (bw H dx (.xd (fs.zip ys))) a (X1 a C dx))
end L2
end
section
namespace L2
open PySem PySem.Spec PyProof.Rows
noncomputable def Cx.hx(X:Cx)(e:Addr):Cx:={X with A:=X.A.mark (some (.ref e)),calm:=false,xe:=λ_ _=>False}
section
variable {X:Cx} {pins:List (Addr×Obj)} {σ:St} {H:Hp} {s:Shared} {e:Addr}
theorem Inv.hx(I:Inv X pins σ H s)(e:Addr):Inv (X.hx e) pins σ H s :=
 ⟨⟨I.ok.mod,I.ok.kind,I.ok.glob,I.ok.blt,I.ok.above,I.ok.inj,I.ok.has,I.ok.DF,λz=>Bool.noConfusion z,I.ok.frames,I.ok.Jb,I.ok.OP,I.ok.bs,I.ok.Ad,I.ok.tY,I.ok.tZ,I.ok.jw,I.ok.Ft⟩,I.os,I.bare,I.base,I.loc,I.cell,I.free,I.fy,I.pin,I.bc,I.len⟩
end
end L2
end
section
namespace L2
open PySem PySem.Spec PyProof.Rows
end L2
end
section
namespace L2
open PySem PySem.Spec PyProof.Rows
end L2
end
section
namespace L2
open PySem PySem.Spec PyProof.Rows
structure DW (k:Nat) (A:Around):Prop where
 dp:A.depth+3*k+5<recursionLimit
 un:A.units+16*k+200<cLine
structure DX (P:Program) (w:World) (K:PySem.W.Frag) (mg:Str->Option Value) (base:Heap) (CX:ue) (k:Nat) (f:Addr) (fd:FuncData) (ps:List Str) (sp:Sp):Prop where
 len:∀vs H Q E,sp vs H Q E->vs.length=ps.length
 run:∀(A:Around)(outer:List Env)(s:Shared)(H:Hp)(args:Args)(us:List Value)(vs:List V)(Q:VK)(E:XK),DW k A->w_ P w K mg base A outer s H->BindsTo s fd args (ps.zip us)->aE vs us->sp vs H Q E ->
  codeAny (model P w) A (.call (.ref f) args) (CR CX outer P w H s Q E) s
end L2
end
section
namespace L2
open PySem PySem.Spec PyProof.Rows
open Builtin
theorem iR:fillsNumberSlot (.type "tuple") "mul" = pure false :=
 PySem.fillsNumberSlot_seq (id := "tuple.__mul__") (r:=some (.builtin "tuple.__rmul__")) zX.lookup ⋯ F.slot_tuple_rmul.lookup ⋯
theorem nc:seqRepeat? (.type "tuple")=pure (some (.builtin "tuple.__mul__")):=by
 unfold seqRepeat?;rw[PySem.seqSlot_of (T := "tuple") (name := "__mul__") (id := "tuple.__mul__") zX.lookup ⋯,PySem.seqSlot_of (T := "tuple") (name := "__rmul__") (id := "tuple.__rmul__") F.slot_tuple_rmul.lookup ⋯];rfl
theorem kf(a:Int)(t:Tok)(l:Addr)(items:Array Value)(n:Nat)(od:Option Addr)(oq:Array (Option Value)):Meets (Builtin.«int.__rmul__» ⟨[.int a t,.ref l],[]⟩) (λ_ R s=>s.heap.get? l=some {cls:=.type "tuple",dict:=od,data:=.seq items n,slots:=oq}/\R (.ok (.ret Value.notImplemented)) s) :=
 .of_wp λprog w A R s h=>by obtain⟨hp,g,d,tk,os⟩:=s;obtain⟨hl,h⟩:=h;wp_walk;exact⟨_,rfl,h⟩
theorem kg(l:Addr)(items:Array Value)(n:Nat)(od:Option Addr)(oq:Array (Option Value))(x:Int)(u:Tok)(h1:-(2 ^ 63)<=x)(h2:x<2 ^ 63)(hs:(items.isEmpty||x==1)=true):Meets (Builtin.«tuple.__mul__» ⟨[.ref l,.int x u],[]⟩) (λ_ R s=>s.heap.get? l=some {cls:=.type "tuple",dict:=od,data:=.seq items n,slots:=oq}/\R (.ok (.ret (Value.ref l))) s) :=
 .of_wp λprog w A R s h=>by
  obtain⟨hp,g,d,tk,os⟩:=s;obtain⟨hl,h⟩:=h;have f1:=AutoSeq1.idx_int;have f2:=AutoSeq1.sub_tuple_tuple;have hf:(decide (x < -(2 ^ 63))||decide (x ≥ 2 ^ 63))=false:=by rw[df ∅,df ∅];rfl
  wp_walk using wpAny_loadPart' hl
  rw[aR (by rw[hf];exact aD)]
  wp_walk using wpAny_loadPart' hl
  exact⟨_,rfl,h⟩
theorem lK(l:Addr)(items:Array Value)(n:Nat)(od:Option Addr)(oq:Array (Option Value))(x:Int)(u:Tok)(h1:-(2 ^ 63)<=x)(h2:x<2 ^ 63)(hs:(items.isEmpty||x==1)=false)(hz:items.size*x.toNat<=sizeLine):Meets (Builtin.«tuple.__mul__» ⟨[.ref l,.int x u],[]⟩) (λ_ R s=>s.heap.get? l=some {cls:=.type "tuple",dict:=od,data:=.seq items n,slots:=oq}/\R (.ok (.ret (Value.ref s.heap.objs.size))) {s with heap:=s.heap.push {cls:=.type "tuple",data:=.seq (List.foldl (λx1 x2=>x1++x2) #[] (List.replicate x.toNat items))}}) :=
 .of_wp λprog w A R s h=>by
  obtain⟨hp,g,d,tk,os⟩:=s;obtain⟨hl,h⟩:=h;have f1:=AutoSeq1.idx_int;have f2:=AutoSeq1.sub_tuple_tuple;have hf:(decide (x < -(2 ^ 63))||decide (x ≥ 2 ^ 63))=false:=by rw[df ∅,df ∅];rfl
  have he:items.isEmpty=false:=(Bool.or_eq_false_iff.mp hs).1
  wp_walk using wpAny_loadPart' hl
  rw[aR (by rw[hf];exact aD)]
  wp_walk using wpAny_loadPart' hl
  rw[aR (by rw[hs];exact aD)];by_cases h0:x<=0
  ·rw[aG (by rw[gX h0];rfl)];have e0:x.toNat=0:=∅;rw[e0]at h
   wp_walk
   exact⟨_,rfl,h⟩
  ·rw[aR (by rw[df h0,he];exact aD)];have ez:(items.size:Int)*x=((items.size*x.toNat:Nat):Int):=by rw[Int.natCast_mul,Int.toNat_of_nonneg ∅]
   have hb:¬(items.size:Int)*x>(2 ^ 63-1) / 8:=by
    rw[ez];have:(sizeLine:Nat)<=1000000000000:=by decide
    omega
   have ht:Tuple.tupleTooMany ((items.size:Int)*x)=false:=by
    unfold Tuple.tupleTooMany;rw[ez];exact df ∅
   rw[aR hb,aR (by rw[ht];exact aD)]
   have hsz:(List.foldl (λx1 x2=>x1++x2) #[] (List.replicate x.toNat items)).size<=sizeLine:=by
    have:=foldl_rep items.toList x.toNat [];rw[Aa,Array.toArray_toList]at this;rw[this,cE,mZ,Nat.mul_comm];exact hz
   wp_walk
   exact⟨_,rfl,h⟩
def MG:R2:=λx y H Q=>∃l k xs,x=.ref l/\y=.int k/\H l=some (.tup xs)/\-(2 ^ 63)<=k/\k<2 ^ 63/\xs.length*k.toNat<=sizeLine /\
 ((List.replicate k.toNat xs).flatten=xs->Q (.ref l) H)/\∀p,H p=none->Q (.ref p) (bw H p (.tup (List.replicate k.toNat xs).flatten))
section
variable {X:Cx}
theorem AQ:fR X (binaryOp .Mult) MG:=by
 intro pins s σ H x y v u Q I rx ry h;obtain⟨l,k,xs,rfl,rfl,hH,h1,h2,hz,q1,q2⟩:=h;cases rx;obtain⟨t,rfl⟩:=ry;obtain⟨hx,ax,r,o,e,c,n,d⟩:=(show bh X.prog X.w H s.heap l (.tup xs) from I.bc l _ hH);obtain⟨oc,od,Vg,oq⟩:=o;obtain rfl:oc=.type "tuple" := c;obtain rfl:Vg=.seq ax.toArray n:=d;have bu:ax.toArray.size*k.toNat<=sizeLine:=by rw[cE,<- r.length];exact hz
 refine wpAny_binaryOp_repeat_ref (T := "tuple") (U := "int") (by decide) ⟨_,e,rfl⟩ (λs'=>typeIs_int s' k t) iR F.fills_int_mul Ab nc F.slot_int_index.lookup
  (jX Ab (typeIs_int s k t) F.entry_int_rmul (F.args_int_rmul_2 _ _) (kf k t l ax.toArray n od oq)
   ⟨e,rfl,⟨_,e,rfl⟩,?_⟩)
 cases hs:(ax.toArray.isEmpty||k==1)with
 | true =>
  refine jX zX ⟨_,e,rfl⟩ F.entry_tuple_mul (F.args_tuple_mul_2 _ _) (kg l ax.toArray n od oq k t h1 h2 hs) ⟨e,?_⟩;refine⟨.ref l,H,I,rfl,q1 ?_⟩;rcases Bool.or_eq_true_iff.mp hs with z | z
  ·have:ax=[]:=by simpa using z
   subst this;have:xs=[]:=EI.mp (by rw[r.length];rfl);subst this;simp
  ·have:k=1:=by simpa using z
   subst this;simp
 | false =>
  refine jX zX ⟨_,e,rfl⟩ F.entry_tuple_mul (F.args_tuple_mul_2 _ _) (lK l ax.toArray n od oq k t h1 h2 hs bu) ⟨e,?_⟩
  have lJ:List.foldl (λx1 x2=>x1++x2) #[] (List.replicate k.toNat ax.toArray)=(List.replicate k.toNat ax).flatten.toArray:=by
   have:=foldl_rep ax k.toNat [];rw[Aa]at this;exact this
  rw[lJ];have hf:H s.heap.objs.size=none:=I.bc.fresh (a6 _);refine⟨.ref s.heap.objs.size,bw H s.heap.objs.size (.tup (List.replicate k.toNat xs).flatten),I.laid (t':=s.toks) (λb u e=>bC _ e) (a6 _) ?_,rfl,q2 _ hf⟩;exact⟨by rw[mZ,Nat.mul_comm];exact hz,_,r.rep k.toNat,⟨_,dC _ rfl,rfl,_,rfl⟩⟩
end
end L2
end
section
open PySem PySem.Spec PyProof.Rows
namespace HT
section
variable {prog:Program} {w:World} {A:Around} {E:Value->Shared->Prop} {s:Shared}
theorem gh{t sl:Addr}{items:Array Value}{vl vu:Value}{lo hi:Option Int}{Q:Value->Shared->Prop}(ht:IsTup s.heap t items)(hs:s.heap.IsSliceOf sl vl vu .none)(pl:IsPart vl lo)(pu:IsPart vu hi)(hw:cj items.size 0 lo=0/\cj items.size items.size hi=items.size)(h:Q (.ref t) s):wpAny (model prog w) A (getItem (.ref t) (.ref sl)) Q E s:=by
 obtain⟨os,F7,F8,Md⟩:=id hs;have Qv:s.TypeIs (.ref sl) "slice" := ⟨os,F7,F8⟩;unfold getItem
 try with_reducible refine mF ?_
 first | refine ah (a7 ?_) | skip
 refine ah (wpAny_sequenceKey ht.typeIs (by decide) ?_)
 refine ah (tq (name:=Str.ofString "__getitem__") ht.typeIs tf
  (pT tf ht.typeIs entry_tuple_getitem ?_ (args_tuple_getitem _ _)))
 show wpAny _ _ (Builtin.Tuple.tupleItemsOf (.ref t) >>= _) _ _ s;refine ah (tupleItemsOf_ ht ?_);refine ah (wpAny_typeOf Qv ?_);rw[aG (by decide)];refine ah (eN hs pl pu ?_)
 have Q8:(((cj items.size 0 lo:Nat):Int)==0&&(1:Int)==1&&(cj items.size items.size hi-cj items.size 0 lo)==items.size)=true:=by
  rw[hw.1,hw.2];simp
 show wpAny _ _ (if (((cj items.size 0 lo:Nat):Int)==0&&(1:Int)==1&&(cj items.size items.size hi-cj items.size 0 lo)==items.size)=true then _ else _) _ _ s;rw[aG Q8];unfold Builtin.Tuple.tupleIsExact;refine ah (ah (wpAny_typeOf ht.typeIs (a7 ?_)));rw[aG (by decide)]
 wp_walk
 exact⟨_,rfl,a7 h⟩
end
end HT
namespace L2
def Q9(K:PySem.W.Frag):V->Option Int->Option Int->Hp->VK->Prop:=λx lo hi H Q=>∃a xs,x=.ref a/\eJ K H a xs /\
 (HT.cj xs.length 0 lo=0/\HT.cj xs.length xs.length hi=xs.length)/\Q x H
theorem AR{X:Cx}:Mg X (Q9 X.K):=by
 intro pins s σ H x v vl vu lo hi sl Q I rx hs pl pu h;obtain⟨a,xs,rfl,hx,hw,q⟩:=h;cases rx;obtain⟨ax,r,ht,hz⟩:=I.tuple hx;have bu:ax.toArray.size=xs.length:=by rw[cE];exact r.length.symm
 refine⟨"tuple",_,tf.lookup,ht.typeIs,?_⟩;exact HT.gh ht hs pl pu (by rw[bu];exact hw) ⟨.ref a,H,I,rfl,q⟩
end L2
end
section
namespace L2
open PySem PySem.Spec PyProof.Rows
noncomputable def Q_(x:Str):It:=⟨λi _=>i<x.cps.size,λi H y H'=>H'=H/\∃c,x.cps[i]?=some c/\y=.str ⟨#[c]⟩,λi _=>x.cps.size<=i⟩
theorem xS{P:Program}{w:World}{K:PySem.W.Frag}{tg:Expr}(it:Addr)(x:Str)(t:Tok):pY P w K tg (Q_ x) [it] it (λi h=>h.IsStrIter it "str_ascii_iterator" x t i) where
 mem:=by simp
 obj:=λi h st b hb=>by
  have e:b=it:=by simpa using hb
  subst e;obtain⟨o,e,c,d⟩:=st;exact⟨o,e,λv z=>by rw[d]at z;cases z⟩
 keep:=λi h h' st k=>by
  obtain⟨o,e,q⟩:=st;exact⟨o,k it (by simp) o e,q⟩
 item:=by
  intro X hP hw hK hc i pins s σ H E I hf st hg;subst hP hw hK;obtain⟨f0,f1,f2,f3,f4,f5⟩:=hf it (by simp);have hx:x.cps[i]?=some x.cps[i]:=Array.getElem?_eq_getElem hg;refine wpAny_pyNext_ascii_item st hx λh' lX sb=>?_;have I1:Inv X pins σ H {s with heap:=h',toks:=s.toks+1}:=I.turned (λb o hb e=>(sb.2 b hb).trans e) f0 f1 f3 f4 f5;obtain⟨o,e,c,d⟩:=id lX;exact⟨_,rfl,rf (s:={s with heap:=h',toks:=s.toks+1}) e c d (by decide) ⟨.str ⟨#[x.cps[i]]⟩,H,I1,⟨s.toks,rfl⟩,⟨rfl,_,hx,rfl⟩,lX,λb hb=>(hf b hb).1⟩⟩
 done:=by
  intro X hP hw hK hc i pins s σ H E I hf st hg;subst hP hw hK;obtain⟨f0,f1,f2,f3,f4,f5⟩:=hf it (by simp);exact wpAny_pyNext_ascii_end (I.ok.hd hc) st (Array.getElem?_eq_none hg) λh' eb=>⟨rfl,I.turned (t':=s.toks) (λb o hb e=>eb b o hb e) f0 f1 f3 f4 f5⟩
 self:=λ_ _ _ _ _ st h=>wpAny_pyIter_striter_ascii st h
section
variable {X:Cx} {tg:Expr}
def Ra(tl:TE):TI:=λσ H R=>tl σ H λy H1=>∃x:Str,y=.str x/\(x.cps.all λc=>decide (c<128))=true/\R (Q_ x) H1
theorem Gr{l:Expr}{tl:TE}(hl:PE X l tl):PI X tg l (Ra tl):=by
 intro pins s σ H R I h;refine bP (hl pins s σ H _ I h) ?_;rintro v s1 ⟨y,H1,I1,r1,q1⟩;obtain⟨x,e,ha,q⟩:=q1;subst e;obtain⟨t,rfl⟩:=r1;refine wpAny_pyIter_ascii ha ?_;refine⟨s1.heap.objs.size,[s1.heap.objs.size],_,_,H1,rfl,I1.kept (t':=s1.toks) λb o e=>bC _ e,xS _ x t,⟨_,dC _ rfl,rfl,rfl⟩,λb hb=>?_,q⟩;have e:b=s1.heap.objs.size:=by simpa using hb
 subst e;exact I1.wR (a6 _) (I1.bc.fresh (a6 _))
end
end L2
end
section
namespace Ev
open L2
open PySem PySem.Spec PyProof.Rows
set_option genInjectivity true in
inductive D where
 | br | bl (b:Bool) | int (i:Int) | str (s:Str) | tup (ds:List D) | aX (n:Nat) | ls (ds:List D) | fn (a:Addr) | tg (ds:List D)
 deriving Inhabited
set_option genInjectivity true in
inductive MO where
 | lst (ds:List D) | jh (ds:List D) | dK (ak:List (bG×D)) | dT (ak:List (List bG×D)) | dF (ak:List (List bG×D)) | dG (ak:List (bG×D)) | xc (C:Addr) (fs:List (Str×D))
 deriving Inhabited
abbrev ab:=List MO
abbrev En:=List (Option D)
inductive W where
 | d (x:D) | lv (ds:List D)
 deriving Inhabited
structure xT where
 cls:Addr
 fs:List (Str×D)
inductive bp (α:Type) where
 | ok (a:α) (M:ab) | err (x:xT) (M:ab) | aa
noncomputable def bp.bind{α β:Type}(o:bp α)(f:α->ab->bp β):bp β:=match o with
 | .ok a M=>f a M
 | .err x M=>.err x M
 | .aa=>.aa
noncomputable def bp.b0{α β:Type}(o:bp α)(f:α->ab->bp β):bp β:=match o with
 | .ok a M=>f a M
 | _=>.aa
noncomputable def oJ(K:PySem.W.Frag)(H:Hp)(a:Addr)(xs:List V):Prop :=
 (∃o,H a=some (.eX o (.lst xs)))\/∃(o:Obj) (ax:Array Value) (n:Nat),K.lookup a=some o/\o.cls=.type "list" /\ o.dict=none/\o.data=.seq ax n/\ax.size<=sizeLine/\aE xs ax.toList
theorem oJ.sq{K:PySem.W.Frag}{H:Hp}{a:Addr}{xs:List V}(h:oJ K H a xs):d5 K H a xs:=by
 rcases h with⟨o,h⟩ | h
 ·exact .inl (.inr ⟨o,h⟩)
 ·exact .inr h
noncomputable def MH(K:PySem.W.Frag)(a:Addr)(xs:List V):Prop:=∃(o:Obj) (ax:Array Value) (n:Nat),K.lookup a=some o/\o.cls=.type "tuple" /\ o.data=.seq ax n/\ax.size<=sizeLine/\aE xs ax.toList
mutual
noncomputable def RD(K:PySem.W.Frag)(ads:List Addr)(H:Hp):D->V->Prop
 | .br,v=>v=.br
 | .bl b,v=>v=.bl b
 | .int i,v=>v=.int i
 | .str s,v=>v=.str s
 | .tup ds,v=>∃a xs,v=.ref a/\H a=some (.tup xs)/\aF K ads H ds xs
 | .aX n,v=>∃a,v=.ref a/\ads[n]?=some a
 | .ls ds,v=>∃a xs,v=.ref a/\oJ K H a xs/\aF K ads H ds xs
 | .fn a,v=>v=.ref a
 | .tg ds,v=>∃a xs,v=.ref a/\MH K a xs/\aF K ads H ds xs
noncomputable def aF(K:PySem.W.Frag)(ads:List Addr)(H:Hp):List D->List V->Prop
 | [],xs=>xs=[]
 | d::ds,xs=>∃x r,xs=x::r/\RD K ads H d x/\aF K ads H ds r
end
section
variable (K:PySem.W.Frag) (ads:List Addr) (H:Hp)
def bN{κ:Type}:List (κ×D)->List (κ×V)->Prop
 | [],xs=>xs=[]
 | p::ps,xs=>∃x r,xs=x::r/\p.1=x.1/\RD K ads H p.2 x.2/\bN ps r
def Jh(a:Addr):MO->Prop
 | .lst ds=>∃xs,H a=some (.lst xs)/\aF K ads H ds xs
 | .jh ds=>∃o xs,H a=some (.eX o (.lst xs))/\aF K ads H ds xs
 | .dK ak=>∃ks,H a=some (.dK ks)/\bN K ads H ak ks
 | .dT ak=>∃ks,H a=some (.dT ks)/\bN K ads H ak ks
 | .dF ak=>∃o ks,H a=some (.eX o (.dT ks))/\bN K ads H ak ks
 | .dG ak=>∃o ks,H a=some (.eX o (.dK ks))/\bN K ads H ak ks
 | .xc C fs=>False
structure aJ (M:ab):Prop where
 nd:∀(i j:Nat)(a:Addr),ads[i]?=some a->ads[j]?=some a->i=j\/∃C fs,M[i]?=some (.xc C fs)
 len:ads.length=M.length
 obj:∀(n:Nat)(o:MO)(a:Addr),M[n]?=some o->ads[n]?=some a->Jh K ads H a o
def MI(ρ:En)(σ:L2.St):Prop:=∀(i:Nat)(d:D),ρ[i]?=some (some d)->∃v,σ[i]?=some (some v)/\RD K ads H d v
def RW:W->V->Prop
 | .d x,v=>RD K ads H x v
 | .lv ds,v=>∃a xs,v=.ref a/\H a=some (.lst xs)/\a∉ads/\aF K ads H ds xs
end
def Kept(ads:List Addr)(H H':Hp):Prop:=∀b o,b∉ads->H b=some o->H' b=some o
noncomputable def MJ(H H':Hp):Prop:=∀b xs,H b=some (.tup xs)->H' b=some (.tup xs)
structure ay (ads ao:List Addr) (H H':Hp):Prop where
 pre:∃r,ao=ads++r
 new:∀b∈ao,b∉ads->H b=none
 kept:Kept ads H H'
 ft:MJ H H'
 eX:∀b o u,H b=some (.eX o u)->H' b=some (.eX o u)
theorem ay.refl(ads:List Addr)(H:Hp):ay ads ads H H:=⟨⟨[],by simp⟩,λb h n=>absurd h n,λ_ _ _ h=>h,λ_ _ h=>h,λ_ _ _ h=>h⟩
theorem ay.trans{a b c:List Addr}{H H1 H2:Hp}(g:ay a b H H1)(k:ay b c H1 H2):ay a c H H2:=by
 obtain⟨r,e⟩:=g.pre;obtain⟨r',e'⟩:=k.pre;refine⟨⟨r++r',by rw[e',e,pR]⟩,λx h n=>?_,λx o n h=>?_,λx xs h=>k.ft x xs (g.ft x xs h),λx o u h=>k.eX x o u (g.eX x o u h)⟩
 ·by_cases hb:x∈b
  ·exact g.new x hb n
  ·have:=k.new x h hb
   cases q:H x with
   | none=>rfl
   | some o=>rw[g.kept x o n q]at this;cases this
 ·refine k.kept x o (λhb=>?_) (g.kept x o n h);rw[g.new x hb n]at h;cases h
class EX where
 post:PySem.W.Frag->List Addr->Hp->xT->ab->Prop
 shift:∀{K:PySem.W.Frag}{ads ao:List Addr}{H H':Hp}{x:xT}{M:ab},post K ads H x M->ay ads ao H H'->post K ao H' x M
@[reducible] noncomputable def never:EX:=⟨λ_ _ _ _ _=>False,λh _=>h⟩
instance (priority:=low) O9:EX:=never
@[reducible] noncomputable def AS(E:XK):EX:=⟨λK ads H x M=>∀H' ao dx fs,ay ads ao H H'->aJ K ao H' M->H' dx=some (.xd fs)->bN K ao H' x.fs fs->E (.ref x.cls) (some dx) H',λh g H1 ae dx fs g1 m1 e r=>h H1 ae dx fs (g.trans g1) m1 e r⟩
section
variable {K:PySem.W.Frag} {ads ao:List Addr} {H H':Hp}
theorem ay.get(g:ay ads ao H H'){n:Nat}{a:Addr}(h:ads[n]?=some a):ao[n]?=some a:=by
 obtain⟨r,e⟩:=g.pre;rw[e,gz (by have:=(eU.mp h).1;exact this)];exact h
theorem ay.jh(g:ay ads ao H H'){a:Addr}{xs:List V}(h:oJ K H a xs):oJ K H' a xs:=by
 rcases h with⟨o,h⟩ | h
 ·exact .inl ⟨o,g.eX _ _ _ h⟩
 ·exact .inr h
mutual
theorem ay.rd(g:ay ads ao H H'):∀(d:D)(v:V),RD K ads H d v->RD K ao H' d v
 | .br,_,h=>by unfold RD at *;exact h
 | .bl _,_,h=>by unfold RD at *;exact h
 | .int _,_,h=>by unfold RD at *;exact h
 | .str _,_,h=>by unfold RD at *;exact h
 | .aX n,v,h=>by unfold RD at *;obtain⟨a,e,h⟩:=h;exact⟨a,e,g.get h⟩
 | .tup ds,v,h=>by unfold RD at *;obtain⟨a,xs,e,h,r⟩:=h;exact⟨a,xs,e,g.ft _ _ h,ay.lL g ds xs r⟩
 | .ls ds,v,h=>by unfold RD at *;obtain⟨a,xs,e,h,r⟩:=h;exact⟨a,xs,e,g.jh h,ay.lL g ds xs r⟩
 | .fn _,_,h=>by unfold RD at *;exact h
 | .tg ds,v,h=>by unfold RD at *;obtain⟨a,xs,e,h,r⟩:=h;exact⟨a,xs,e,h,ay.lL g ds xs r⟩
theorem ay.lL(g:ay ads ao H H'):∀(ds:List D)(vs:List V),aF K ads H ds vs->aF K ao H' ds vs
 | [],_,h=>by unfold aF at *;exact h
 | d::ds,vs,h=>by unfold aF at *;obtain⟨x,r,e,h1,h2⟩:=h;exact⟨x,r,e,ay.rd g d x h1,ay.lL g ds r h2⟩
end
theorem ay.xU{κ:Type}(g:ay ads ao H H'):∀(ds:List (κ×D))(vs:List (κ×V)),bN K ads H ds vs->bN K ao H' ds vs
 | [],_,h=>by unfold bN at *;exact h
 | d::ds,vs,h=>by unfold bN at *;obtain⟨x,r,e,h0,h1,h2⟩:=h;exact⟨x,r,e,h0,g.rd d.2 x.2 h1,ay.xU g ds r h2⟩
theorem ay.Tg(g:ay ads ao H H'){ρ:En}{σ:L2.St}(h:MI K ads H ρ σ):MI K ao H' ρ σ:=λi d e=>by
 obtain⟨v,e1,r⟩:=h i d e;exact⟨v,e1,g.rd d v r⟩
theorem ay.ji(g:ay ads ao H H'){a:Addr}{o:HO}(n:a∉ads)(e:H a=some o):a∉ao:=λh=>by
 rw[g.new a h n]at e;cases e
theorem ay.rw(g:ay ads ao H H'){w:W}{v:V}(h:RW K ads H w v):RW K ao H' w v:=by
 cases w with
 | d x=>exact g.rd x v h
 | lv ds =>
  obtain⟨a,xs,e,h,n,r⟩:=h;exact⟨a,xs,e,g.kept a _ n h,g.ji n h,g.lL ds xs r⟩
theorem aF.len:∀{ds:List D}{vs:List V},aF K ads H ds vs->ds.length=vs.length
 | [],_,h=>by unfold aF at h;subst h;rfl
 | d::ds,vs,h=>by unfold aF at h;obtain⟨x,r,e,h1,h2⟩:=h;subst e;simp[aF.len h2]
theorem aF.get:∀{ds:List D}{vs:List V}{i:Nat}{d:D},aF K ads H ds vs->ds[i]?=some d->∃v,vs[i]?=some v/\RD K ads H d v
 | [],_,_,_,h,e=>by simp at e
 | d::ds,vs,0,d',h,e=>by unfold aF at h;obtain⟨x,r,rfl,h1,h2⟩:=h;simp at e;subst e;exact⟨x,rfl,h1⟩
 | d::ds,vs,i+1,d',h,e=>by
  unfold aF at h;obtain⟨x,r,rfl,h1,h2⟩:=h;obtain⟨v,e',r'⟩:=aF.get (i:=i) h2 (by simpa using e);exact⟨v,by simpa using e',r'⟩
theorem aF.app:∀{ds es:List D}{vs ws:List V},aF K ads H ds vs->aF K ads H es ws->aF K ads H (ds++es) (vs++ws)
 | [],_,vs,_,h,k=>by unfold aF at h;subst h;exact k
 | d::ds,es,vs,ws,h,k=>by
  unfold aF at h;obtain⟨x,r,rfl,h1,h2⟩:=h;show aF K ads H (d::(ds++es)) (x::(r++ws));unfold aF;exact⟨x,_,rfl,h1,aF.app h2 k⟩
theorem aF.one{d:D}{v:V}(h:RD K ads H d v):aF K ads H [d] [v]:=by
 unfold aF;exact⟨v,[],rfl,h,by unfold aF;rfl⟩
theorem aF.take:∀{ds:List D}{vs:List V}(n:Nat),aF K ads H ds vs->aF K ads H (ds.take n) (vs.take n)
 | _,_,0,_=>by simp;unfold aF;rfl
 | [],vs,n+1,h=>by unfold aF at h;subst h;simp;unfold aF;rfl
 | d::ds,vs,n+1,h=>by unfold aF at h;obtain⟨x,r,rfl,h1,h2⟩:=h;simp only[List.take_succ_cons];unfold aF;exact⟨x,_,rfl,h1,aF.take n h2⟩
theorem aF.drop:∀{ds:List D}{vs:List V}(n:Nat),aF K ads H ds vs->aF K ads H (ds.drop n) (vs.drop n)
 | _,_,0,h=>by simpa using h
 | [],vs,n+1,h=>by unfold aF at h;subst h;simp;unfold aF;rfl
 | d::ds,vs,n+1,h=>by unfold aF at h;obtain⟨x,r,rfl,h1,h2⟩:=h;simp only[ER];exact aF.drop n h2
theorem aF.setAt:∀{ds:List D}{vs:List V}(n:Nat){d:D}{v:V},aF K ads H ds vs->RD K ads H d v->aF K ads H (ds.set n d) (vs.set n v)
 | [],vs,n,_,_,h,_=>by unfold aF at h;subst h;simp;unfold aF;rfl
 | d::ds,vs,0,_,_,h,k=>by unfold aF at h;obtain⟨x,r,rfl,h1,h2⟩:=h;simp only[List.set_cons_zero];unfold aF;exact⟨_,_,rfl,k,h2⟩
 | d::ds,vs,n+1,_,_,h,k=>by unfold aF at h;obtain⟨x,r,rfl,h1,h2⟩:=h;simp only[List.set_cons_succ];unfold aF;exact⟨_,_,rfl,h1,aF.setAt n h2 k⟩
theorem aJ.there{M:ab}(m:aJ K ads H M){a:Addr}(h:a∈ads):∃o,H a=some o/\∀xs,o≠.tup xs:=by
 obtain⟨n,hn,e⟩:=List.mem_iff_getElem.mp h;have e2:ads[n]?=some a:=by rw[jq hn,e]
 have hM:n<M.length:=by rw[<- m.len];exact hn
 have h:=m.obj n M[n] a (jq hM) e2
 cases q:M[n]with
 | lst ds=>rw[q]at h;obtain⟨xs,h,r⟩:=h;exact⟨_,h,λ_ z=>by cases z⟩
 | jh ds=>rw[q]at h;obtain⟨o,xs,h,r⟩:=h;exact⟨_,h,λ_ z=>by cases z⟩
 | dK ds=>rw[q]at h;obtain⟨xs,h,r⟩:=h;exact⟨_,h,λ_ z=>by cases z⟩
 | dT ds=>rw[q]at h;obtain⟨xs,h,r⟩:=h;exact⟨_,h,λ_ z=>by cases z⟩
 | dF ds=>rw[q]at h;obtain⟨o,xs,h,r⟩:=h;exact⟨_,h,λ_ z=>by cases z⟩
 | dG ds=>rw[q]at h;obtain⟨o,xs,h,r⟩:=h;exact⟨_,h,λ_ z=>by cases z⟩
 | xc C ds=>rw[q]at h;exact h.elim
theorem aJ.grow{M:ab}(m:aJ K ads H M)(g:ay ads ads H H')(k:∀a∈ads,H' a=H a):aJ K ads H' M:=⟨m.nd,m.len,λn o a e1 e2=>by
 have h:=m.obj n o a e1 e2;have ha:=k a (eL e2)
 cases o with
 | lst ds=>obtain⟨xs,h,r⟩:=h;exact⟨xs,ha.trans h,g.lL _ _ r⟩
 | jh ds=>obtain⟨o,xs,h,r⟩:=h;exact⟨o,xs,ha.trans h,g.lL _ _ r⟩
 | dK ds=>obtain⟨xs,h,r⟩:=h;exact⟨xs,ha.trans h,g.xU _ _ r⟩
 | dT ds=>obtain⟨xs,h,r⟩:=h;exact⟨xs,ha.trans h,g.xU _ _ r⟩
 | dF ds=>obtain⟨o,xs,h,r⟩:=h;exact⟨o,xs,ha.trans h,g.xU _ _ r⟩
 | dG ds=>obtain⟨o,xs,h,r⟩:=h;exact⟨o,xs,ha.trans h,g.xU _ _ r⟩
 | xc C ds=>exact h.elim⟩
theorem aJ.fresh{M:ab}(m:aJ K ads H M){p:Addr}(h:H p=none):p∉ads:=λz=>by
 obtain⟨o,e,_⟩:=m.there z;rw[h]at e;cases e
theorem ay.e9{M:ab}(m:aJ K ads H M){p:Addr}{o:HO}(h:H p=none):ay ads ads H (bw H p o) :=
 ⟨⟨[],by simp⟩,λb h n=>absurd h n,λb u n e=>by rw[ar (λz=>by subst z;rw[h]at e;cases e)];exact e,λb xs e=>by rw[ar (λz=>by subst z;rw[h]at e;cases e)];exact e,λb u x e=>by rw[ar (λz=>by subst z;rw[h]at e;cases e)];exact e⟩
theorem aJ.e9{M:ab}(m:aJ K ads H M){p:Addr}{o:HO}(h:H p=none):aJ K ads (bw H p o) M :=
 m.grow (ay.e9 m h) λa ha=>ar (λz=>by subst z;exact m.fresh h ha)
mutual
theorem RD.wide{a:Addr}:∀(d:D)(v:V),RD K ads H d v->RD K (ads++[a]) H d v
 | .br,_,h=>by unfold RD at *;exact h
 | .bl _,_,h=>by unfold RD at *;exact h
 | .int _,_,h=>by unfold RD at *;exact h
 | .str _,_,h=>by unfold RD at *;exact h
 | .aX n,v,h=>by
  unfold RD at *;obtain⟨b,e,h⟩:=h;exact⟨b,e,by rw[gz (eU.mp h).1];exact h⟩
 | .tup ds,v,h=>by unfold RD at *;obtain⟨b,xs,e,h,r⟩:=h;exact⟨b,xs,e,h,aF.wide ds xs r⟩
 | .ls ds,v,h=>by unfold RD at *;obtain⟨b,xs,e,h,r⟩:=h;exact⟨b,xs,e,h,aF.wide ds xs r⟩
 | .fn _,_,h=>by unfold RD at *;exact h
 | .tg ds,v,h=>by unfold RD at *;obtain⟨a,xs,e,h,r⟩:=h;exact⟨a,xs,e,h,aF.wide ds xs r⟩
theorem aF.wide{a:Addr}:∀(ds:List D)(vs:List V),aF K ads H ds vs->aF K (ads++[a]) H ds vs
 | [],_,h=>by unfold aF at *;exact h
 | d::ds,vs,h=>by unfold aF at *;obtain⟨x,r,e,h1,h2⟩:=h;exact⟨x,r,e,RD.wide d x h1,aF.wide ds r h2⟩
end
theorem bN.wide{κ:Type}{a:Addr}:∀(ds:List (κ×D))(vs:List (κ×V)),bN K ads H ds vs->bN K (ads++[a]) H ds vs
 | [],_,h=>by unfold bN at *;exact h
 | d::ds,vs,h=>by unfold bN at *;obtain⟨x,r,e,h0,h1,h2⟩:=h;exact⟨x,r,e,h0,RD.wide d.2 x.2 h1,bN.wide ds r h2⟩
theorem Jh.wide{a b:Addr}{o:MO}(h:Jh K ads H b o):Jh K (ads++[a]) H b o:=by
 cases o with
 | lst ds=>obtain⟨xs,h,r⟩:=h;exact⟨xs,h,r.wide⟩
 | jh ds=>obtain⟨o,xs,h,r⟩:=h;exact⟨o,xs,h,r.wide⟩
 | dK ds=>obtain⟨xs,h,r⟩:=h;exact⟨xs,h,r.wide⟩
 | dT ds=>obtain⟨xs,h,r⟩:=h;exact⟨xs,h,r.wide⟩
 | dF ds=>obtain⟨o,xs,h,r⟩:=h;exact⟨o,xs,h,r.wide⟩
 | dG ds=>obtain⟨o,xs,h,r⟩:=h;exact⟨o,xs,h,r.wide⟩
 | xc C ds=>exact h.elim
theorem aJ.push{M:ab}{o:MO}{a:Addr}(m:aJ K ads H M)(n:a∉ads)(h:Jh K ads H a o):aJ K (ads++[a]) H (M++[o]) where
 nd:=λi j b e1 e2=>by
  have li:=(eU.mp e1).1;have lj:=(eU.mp e2).1;rw[eW,List.length_singleton]at li lj;have old:∀k,k<ads.length->(ads++[a])[k]?=some b->ads[k]?=some b:=λk hk e=>by rw[gz hk]at e;exact e
  have new:∀k,¬k<ads.length->k<ads.length+1->(ads++[a])[k]?=some b->b=a:=λk hk Th e=>by
   obtain rfl:k=ads.length:=∅;rw[nQ (a6 _)]at e;simp at e;exact e.symm
  by_cases hi:i<ads.length
  ·by_cases hj:j<ads.length
   ·rcases m.nd i j b (old i hi e1) (old j hj e2)with z | ⟨C,fs,z⟩
    ·exact .inl z
    ·exact .inr ⟨C,fs,by rw[gz (by rw[<- m.len];exact hi)];exact z⟩
   ·obtain rfl:=new j hj lj e2;exact absurd (eL (old i hi e1)) n
  ·obtain rfl:=new i hi li e1;by_cases hj:j<ads.length
   ·exact absurd (eL (old j hj e2)) n
   ·exact .inl ∅
 len:=by simp[m.len]
 obj:=λi o' b e1 e2=>by
  by_cases hi:i<M.length
  ·rw[gz hi]at e1;rw[gz (by rw[m.len];exact hi)]at e2;exact(m.obj i o' b e1 e2).wide
  ·have Vh:i=M.length:=by
    have:=(eU.mp e1).1;simp at this;omega
   subst Vh;rw[nQ (a6 _)]at e1;rw[nQ (by rw[m.len];exact a6 _)]at e2;simp[m.len]at e1 e2;subst e1 e2;exact h.wide
theorem aJ.write{M:ab}{n:Nat}{a:Addr}{u o:MO}{ho:HO}(m:aJ K ads H M)(e:M[n]?=some u)(ea:ads[n]?=some a)(nf:∀o x,H a≠some (.eX o x))(hn:Jh K ads (bw H a ho) a o)(hu:∀C fs,u≠.xc C fs:=by intro _ _ z;cases z):ay ads ads H (bw H a ho)/\aJ K ads (bw H a ho) (M.set n o):=by
  have Gs:a∈ads:=eL ea;obtain⟨o1,e1,nt⟩:=m.there Gs
  have g : ay ads ads H (bw H a ho) := ⟨⟨[], by simp⟩, fun b h n => absurd h n, fun b x nb h => by rw [ar (by intro z; subst z; exact nb Gs)]; exact h, fun b xs h => by
      rw[ar (λz=>by subst z;rw[e1]at h;exact nt xs (cx h))];exact h,λb o u h=>by rw[ar (λz=>by subst z;exact nf _ _ h)];exact h⟩
  have ne:∀(i:Nat)(o':MO)(b:Addr),i≠n->M[i]?=some o'->ads[i]?=some b->b≠a:=λi o' b hi x1 x2 z=>by
    subst z;rcases m.nd n i b ea x2 with q | ⟨C,fs,q⟩
    · exact hi q.symm
    · rw[e]at q;exact hu C fs (cx q)
  refine⟨g,λi j b x1 x2=>?_,by rw[z_];exact m.len,λi o' b x1 x2=>?_⟩
  · rcases m.nd i j b x1 x2 with z | ⟨C,fs,z⟩
    · exact .inl z
    · refine .inr ⟨C,fs,?_⟩;rw[nR (λq=>?_)]
      · exact z
      · subst q;rw[e]at z;exact hu C fs (cx z)
  by_cases hi:i=n
  · subst hi;rw[ea]at x2;cases x2;rw[tu (eU.mp e).1]at x1;cases x1;exact hn
  · rw[nR (ju hi)]at x1;have hb:b≠a:=ne i o' b hi x1 x2;have h:=m.obj i o' b x1 x2
    cases o' with
    | lst ds=>obtain⟨xs,h,r⟩:=h;exact⟨xs,by rw[ar hb];exact h,g.lL _ _ r⟩
    | jh ds=>obtain⟨o,xs,h,r⟩:=h;exact⟨o,xs,by rw[ar hb];exact h,g.lL _ _ r⟩
    | dK ds=>obtain⟨xs,h,r⟩:=h;exact⟨xs,by rw[ar hb];exact h,g.xU _ _ r⟩
    | dT ds=>obtain⟨xs,h,r⟩:=h;exact⟨xs,by rw[ar hb];exact h,g.xU _ _ r⟩
    | dF ds=>obtain⟨o,xs,h,r⟩:=h;exact⟨o,xs,by rw[ar hb];exact h,g.xU _ _ r⟩
    | dG ds=>obtain⟨o,xs,h,r⟩:=h;exact⟨o,xs,by rw[ar hb];exact h,g.xU _ _ r⟩
    | xc C ds=>exact h.elim
end
mutual
noncomputable def fU(M:ab):Nat->D->Option PyData
 | _,.br=>some .none
 | _,.bl b=>some (.bool b)
 | _,.int i=>some (.int i)
 | _,.str s=>some (.str s)
 | _,.fn _=>none
 | _,.tg _=>none
 | 0,.tup _=>none
 | 0,.aX _=>none
 | 0,.ls _=>none
 | n+1,.ls ds=>(dh M n ds).map .list
 | n+1,.tup ds=>(dh M n ds).map .tuple
 | n+1,.aX k=>match M[k]? with
  | some (.lst ds)=>(dh M n ds).map .list
  | some (.jh ds)=>(dh M n ds).map .list
  | _=>none
noncomputable def dh(M:ab):Nat->List D->Option (List PyData)
 | _,[]=>some []
 | n,d::ds=>match fU M n d,dh M n ds with
  | some p,some ps=>some (p::ps)
  | _,_=>none
end
def nM(M:ab):W->Option PyData
 | .d x=>fU M 30 x
 | .lv ds=>(dh M 30 ds).map .list
inductive zG where
 | add | sub | mul | fdiv | mod | pow
 deriving DecidableEq
inductive ux where
 | eq | ne | lt | le | gt | ge | isN | notN | isin | ji | MK
 deriving DecidableEq
inductive Ty where
 | int | bool | str | tuple | list | dict | none
 deriving DecidableEq
inductive Bi where
 | len | max2 | min2 | jB | list1 | tuple1 | rJ | iT (t:Ty) | all1 | AU | rK | min1 | AV | rL | str1
 deriving DecidableEq
inductive Me where
 | append | insert | reverse | extend | remove | clear | pop
 deriving DecidableEq
inductive SK where
 | seq | rng1 | rng2 | enum | zip | AW | keys | vals
 deriving DecidableEq
inductive IX where
 | one (x:Str) | ve | many (xs:List Str)
 deriving DecidableEq
abbrev lC:=List (Str×List Addr×Option Addr)
noncomputable def O_(p:List Addr×Option Addr):D:=.tg [.tg (p.1.map D.fn),match p.2 with
 | some a=>.fn a
 | none=>.br]
set_option genCtorIdx false in
mutual
inductive C where
 | jC (i:Nat)
 | a_ (d:D)
 | bin (op:zG) (a b:C)
 | cmp (op:ux) (a b:C)
 | chain (o1 o2:ux) (a b c:C)
 | dE (cs:List C) | eF (cs:List C) | neg (a:C)
 | ite (c:dv) (a b:C)
 | tup (cs:List C) | lst (cs:List C)
 | sub (a b:C)
 | rM (a:C) (lo hi:Option C)
 | call (f:Nat) (cs:List C)
 | bi (b:Bi) (cs:List C)
 | me (m:Me) (o:C) (cs:List C)
 | uZ (ks:List Str) (cs:List C)
 | gZ (tp:Bool) (cs:List C)
 | uy (x:Str) (v:Int)
 | lM (ng:Bool) (a:C)
 | qi (cC:Str) (a:C)
 | lN (pt:Bool) (a b:C)
 | uz (lit:Str) (a b:C)
 | cat (a b:C)
 | ib (x:Str) (tt:lC) (b:C)
 | lO (x:Str) (tt:lC) (a:C)
 | u4 (a:C)
 | oK (y:Str) (a:Addr)
 | qj (x:Str) (v:Str)
 | cM (i:Nat) (tb:List (Addr×Nat)) (cs:List C)
 | xf (a:C) (f:Str)
 | AX (a:C) (k:IX) (tb:List (Addr×Bool))
 | jj (f:Nat) (cs:List C)
 | comp (k:SK) (cF:List C) (tg:List Nat) (cond:Option dv) (elt:C) (bY:List (Option Nat))
inductive dv where
 | val (c:C) | dE (ts:List dv) | eF (ts:List dv) | neg (a:dv)
end
instance (n:Nat):OfNat C n:=⟨.jC n⟩
abbrev C.kn(k:Int):C:=.a_ (.int k)
abbrev C.ks(i:Nat)(k:Int):C:=.sub (.jC i) (.a_ (.int k))
noncomputable def bL(M:ab):W->Option (Bool×List D)
 | .lv ds=>some (true,ds)
 | .d (.tup ds)=>some (false,ds)
 | .d (.ls ds)=>some (true,ds)
 | .d (.aX n)=>match M[n]? with
  | some (.lst ds)=>some (true,ds)
  | some (.jh ds)=>some (true,ds)
  | _=>none
 | _=>none
noncomputable def dH(M:ab):W->Option (List D)
 | .lv ds=>some ds
 | .d (.aX n)=>match M[n]? with
  | some (.lst ds)=>some ds
  | _=>none
 | _=>none
noncomputable def own:W->ab->bp D
 | .d x,M=>.ok x M
 | .lv ds,M=>.ok (.aX M.length) (M++[.lst ds])
def Ji(ds:List D)(i:Int):Option D:=oA ds i
def cutD(ds:List D)(lo hi:Option Int):List D:=(ds.drop (HT.cj ds.length 0 lo)).take (HT.cj ds.length ds.length hi-HT.cj ds.length 0 lo)
def lP(op:zG)(a b:W)(M:ab):bp W :=
 match op,a,b with
 | .add,.d (.int i),.d (.int j)=>.ok (.d (.int (i+j))) M
 | .sub,.d (.int i),.d (.int j)=>.ok (.d (.int (i-j))) M
 | .mul,.d (.int i),.d (.int j)=>if (-(2 ^ 64)<i/\i<2 ^ 64)\/(-(2 ^ 64)<j/\j<2 ^ 64) then .ok (.d (.int (i*j))) M else .aa
 | .fdiv,.d (.int i),.d (.int j)=>if 0<j/\j<1073741824 then .ok (.d (.int (i / j))) M else .aa
 | .mod,.d (.int i),.d (.int j)=>if 0<j then .ok (.d (.int (i % j))) M else .aa
 | .pow,.d (.int i),.d (.int j)=>if 0<=j/\j<=1000000/\i.natAbs<2 ^ 64 then .ok (.d (.int (i ^ j.toNat))) M else .aa
 | .add,.d (.tup xs),.d (.tup ys)=>if xs.length+ys.length<=sizeLine then .ok (.d (.tup (xs++ys))) M else .aa
 | .add,a,b=>match dH M a,dH M b with
  | some xs,some ys=>if xs.length+ys.length<=sizeLine then .ok (.lv (xs++ys)) M else .aa
  | _,_=>.aa
 | .mul,.d (.tup xs),.d (.int k)=>if -(2 ^ 63)<=k/\k<2 ^ 63/\xs.length*k.toNat<=sizeLine then .ok (.d (.tup (List.replicate k.toNat xs).flatten)) M else .aa
 | .mul,a,.d (.int k)=>match dH M a with
  | some xs=>if -(2 ^ 63)<=k/\k<2 ^ 63/\xs.length*k.toNat<=sizeLine then .ok (.lv (List.replicate k.toNat xs).flatten) M else .aa
  | none=>.aa
 | _,_,_=>.aa
noncomputable def uA(p:PyData):List PyData->Bool
 | []=>false
 | q::qs=>PyData.eqv q p||uA p qs
noncomputable def ML(M:ab):W->Option (List (bG×D))
 | .d (.aX n)=>match M[n]? with
  | some (.dK ak)=>some ak
  | some (.dG ak)=>some ak
  | _=>none
 | _=>none
noncomputable def MM{κ:Type}[DecidableEq κ](ak:List (κ×D))(k:κ):Option D:=(ak.find? λp=>decide (p.1=k)).map (·.2)
def bM(op:ux)(a b:W)(M:ab):bp Bool :=
 match op with
 | .eq=>match nM M a,nM M b with
  | some p,some q=>if SeqAt.shaped p=true/\SeqAt.shaped q=true then .ok (PyData.eqv p q) M else .aa
  | _,_=>.aa
 | .ne=>match nM M a,nM M b with
  | some p,some q=>if SeqAt.shaped p=true/\SeqAt.shaped q=true then .ok (!PyData.eqv p q) M else .aa
  | _,_=>.aa
 | .lt=>match a,b with
  | .d (.int i),.d (.int j)=>.ok (decide (i<j)) M
  | .d (.str x),.d (.str y)=>.ok (decide (x.cps.toList<y.cps.toList)) M
  | _,_=>.aa
 | .le=>match a,b with
  | .d (.int i),.d (.int j)=>.ok (decide (i<=j)) M
  | .d (.str x),.d (.str y)=>.ok (!decide (y.cps.toList<x.cps.toList)) M
  | _,_=>.aa
 | .gt=>match a,b with
  | .d (.int i),.d (.int j)=>.ok (decide (j<i)) M
  | _,_=>.aa
 | .ge=>match a,b with
  | .d (.int i),.d (.int j)=>.ok (decide (j<=i)) M
  | _,_=>.aa
 | .isN=>match a with
  | .d .br=>.ok true M
  | _=>.ok false M
 | .notN=>match a with
  | .d .br=>.ok false M
  | _=>.ok true M
 | .isin=>.aa
 | .ji=>match nM M a,bL M b with
  | some p,some (_,ds)=>match dh M 30 ds with
   | some qs=>if SeqAt.shaped p=true/\qs.all SeqAt.shaped=true then .ok (!uA p qs) M else .aa
   | none=>.aa
  | _,_=>.aa
 | .MK=>match a,b with
  | .d (.str x),.d (.str y)=>.ok (!(Builtin.Str.occurrences y x 0 y.length 1).isEmpty) M
  | _,_=>.aa
def lQ(M:ab):W->Option Bool
 | .d .br=>some false
 | .d (.bl b)=>some b
 | .d (.int i)=>some (i != 0)
 | w=>(bL M w).map λp=>!p.2.isEmpty
def dw(a b:W)(M:ab):bp W :=
  match b with
  | .d (.int i)=>match bL M a with
    | some (_,ds)=>match Ji ds i with
      | some d=>.ok (.d d) M
      | none=>.aa
    | none=>match a with
      | .d (.str s) => if s.length <= sizeLine then match oA s.cps.toList i with
          | some c=>.ok (.d (.str ⟨#[c]⟩)) M
          | none=>.aa
        else .aa
      | .d (.tg ds)=>match Ji ds i with
        | some d=>.ok (.d d) M
        | none=>.aa
      | .d (.aX n)=>match M[n]? with
        | some (.dK ak)=>match MM ak (Sum.inl i:bG)with
          | some d=>.ok (.d d) M
          | none=>.aa
        | some (.dG ak)=>match MM ak (Sum.inl i:bG)with
          | some d=>.ok (.d d) M
          | none=>.aa
        | _=>.aa
      | _=>.aa
  | .d (.str k)=>match a with
    | .d (.aX n)=>match M[n]? with
      | some (.dK ak)=>match (ak.find? λp=>decide (p.1=(Sum.inr k:bG))).map (·.2)with
        | some d=>.ok (.d d) M
        | none=>.aa
      | _=>.aa
    | _=>.aa
  | _=>.aa
def kh(a:W)(lo hi:Option Int)(M:ab):bp W :=
 match bL M a with
 | some (true,ds)=>.ok (.lv (cutD ds lo hi)) M
 | some (false,ds)=>.ok (.d (.tup (cutD ds lo hi))) M
 | none=>.aa
noncomputable def qk(M:ab):W->Option Ty
 | .lv _=>some .list
 | .d .br=>some .none
 | .d (.bl _)=>some .bool
 | .d (.int _)=>some .int
 | .d (.str _)=>some .str
 | .d (.tup _)=>some .tuple
 | .d (.ls _)=>none
 | .d (.fn _)=>none
 | .d (.tg _)=>none
 | .d (.aX n)=>match M[n]? with
  | some (.lst _)=>some .list
  | some (.jh _)=>some .list
  | some (.dK _)=>some .dict
  | some (.dT _)=>some .dict
  | some (.dF _)=>none
  | some (.dG _)=>none
  | some (.xc _ _)=>none
  | none=>none
noncomputable def oM:List D->Option (List Bool)
 | []=>some []
 | .bl b::ds=>(oM ds).map (b::·)
 | _::_=>none
noncomputable def oN:List D->Option (List Int)
 | []=>some []
 | .int b::ds=>(oN ds).map (b::·)
 | _::_=>none
noncomputable def oO{κ:Type}[DecidableEq κ](ak:List (κ×D))(k:κ)(v:D):List (κ×D) :=
 if (ak.any λkv=>decide (kv.1=k))=true then ak.map (λkv=>if kv.1=k then (kv.1,v) else kv) else ak++[(k,v)]
noncomputable def pairD:D->Option (bG×D)
 | .tup [.int i,d]=>some (Sum.inl i,d)
 | .tup [.str x,d]=>some (Sum.inr x,d)
 | _=>none
def MN(aB:List (bG×D)):List D->Option (List (bG×D))
 | []=>some aB
 | d::ds=>match pairD d with
  | some (k,x)=>MN (oO aB k x) ds
  | none=>none
noncomputable def kD:bG->D
 | .inl i=>.int i
 | .inr x=>.str x
noncomputable def MP(p:List bG×D):D:=.tup (p.1.map kD)
def MQ(p:bG×D):D:=kD p.1
noncomputable def xV:List D->Option (List bG)
 | []=>some []
 | .int i::ds=>(xV ds).map (Sum.inl i::·)
 | .str x::ds=>(xV ds).map (Sum.inr x::·)
 | _::_=>none
def Rb:W->Option (List bG)
 | .d (.tup ds)=>xV ds
 | _=>none
noncomputable def Vi(M:ab):W->Option (List (List bG×D))
 | .d (.aX n)=>match M[n]? with
  | some (.dT ak)=>some ak
  | some (.dF ak)=>some ak
  | _=>none
 | _=>none
noncomputable def Ti:List (List bG×D)->Option (List (Int×Int))
 | []=>some []
 | ([.inl i,.inl j],_)::r=>(Ti r).map ((i,j)::·)
 | _=>none
noncomputable def Tj(k:Int×Int):D:=.tup [.int k.1,.int k.2]
noncomputable def DY:List (bG×D)->Option (List Int)
 | []=>some []
 | (.inl i,_)::r=>(DY r).map (i::·)
 | _=>none
def MR(w:W)(M:ab):bp W:=match ML M w with
 | some ak=>match DY ak with
  | some is=>if is.length<64 then .ok (.lv ((L2.Gp is).map D.int)) M else .aa
  | none=>.aa
 | none=>.aa
def MS(w:W)(M:ab):bp W:=match Vi M w with
 | some ak=>match Ti ak with
  | some ks=>if ks.length<128 then .ok (.lv ((MF ks).map Tj)) M else .aa
  | none=>.aa
 | none=>MR w M
noncomputable def MT:List D->Option (List (Int×Int))
 | []=>some []
 | .tup [.int i,.int j]::ds=>(MT ds).map ((i,j)::·)
 | _=>none
noncomputable def Vj(p:Int×Int)(ps:List (Int×Int)):Int×Int:=ps.foldl (λa b=>if Q7 a b then b else a) p
noncomputable def Rc(ds:List D)(M:ab):bp W:=match MT ds with
 | some (p::ps)=>.ok (.d (Tj (Vj p ps))) M
 | _=>.aa
def ic(b:Bi)(ws:List W)(M:ab):bp W :=
 match b,ws with
 | .len,[w]=>match bL M w with
  | some (_,ds)=>.ok (.d (.int ds.length)) M
  | none=>match w with
   | .d (.str x)=>if x.length<=sizeLine then .ok (.d (.int x.length)) M else .aa
   | .d (.tg ds)=>.ok (.d (.int ds.length)) M
   | _=>.aa
 | .all1,[w]=>match bL M w with
  | some (_,ds)=>match oM ds with
   | some bs=>.ok (.d (.bl (bs.all id))) M
   | none=>.aa
  | none=>.aa
 | .AU,[w]=>match bL M w with
  | some (_,ds)=>match oM ds with
   | some bs=>.ok (.d (.bl (bs.any id))) M
   | none=>.aa
  | none=>.aa
 | .rL,[w]=>match bL M w with
  | some (_,ds)=>match oN ds with
   | some is=>if is.length<64 then .ok (.lv ((L2.Gp is).map D.int)) M else .aa
   | none=>.aa
  | _=>MS w M
 | .min1,[w]=>match bL M w with
  | some (_,ds)=>match oN ds with
   | some (i::is)=>.ok (.d (.int (is.foldl (λa b=>if b<a then b else a) i))) M
   | _=>.aa
  | none=>.aa
 | .AV,[w]=>match bL M w with
  | some (_,ds)=>match oN ds with
   | some (i::is)=>.ok (.d (.int (is.foldl (λa b=>if a<b then b else a) i))) M
   | some []=>.aa
   | none=>Rc ds M
  | none=>.aa
 | .max2,[.d (.int i),.d (.int j)]=>.ok (.d (.int (if j>i then j else i))) M
 | .min2,[.d (.int i),.d (.int j)]=>.ok (.d (.int (if j<i then j else i))) M
 | .jB,[.d (.int i)]=>.ok (.d (.int i)) M
 | .jB,[.d (.bl k)]=>.ok (.d (.int (if k then 1 else 0))) M
 | .jB,[.d (.str y)]=>match PySem.intText? y with
  | some n=>if y.length<=640 then .ok (.d (.int n)) M else .aa
  | none=>.aa
 | .list1,[w]=>match bL M w with
  | some (_,ds)=>.ok (.lv ds) M
  | none=>.aa
 | .tuple1,[w]=>match bL M w with
  | some (_,ds)=>.ok (.d (.tup ds)) M
  | none=>.aa
 | .str1,[.d (.int i)]=>if i.natAbs.log2<1920 then .ok (.d (.str (Str.ofString (toString i)))) M else .aa
 | .str1,[.d (.str x)]=>.ok (.d (.str x)) M
 | .rJ,[w]=>match nM M w with
  | some p=>if p.showable=true/\p.depth<=40/\p.shown.length<=sizeLine then .ok (.d (.str p.shown)) M else .aa
  | none=>.aa
 | .rK,[w]=>match ML M w with
  | some ak=>.ok (.d (.aX M.length)) (M++[.dK ak])
  | none=>match bL M w with
   | some (true,ds)=>match MN [] ds with
    | some ak=>.ok (.d (.aX M.length)) (M++[.dK ak])
    | none=>.aa
   | _=>.aa
 | .iT t,[w]=>match qk M w with
  | some g=>.ok (.d (.bl (decide (g=t)||(decide (g=.bool)&&decide (t=.int))))) M
  | none=>.aa
 | _,_=>.aa
noncomputable def ql:List W->Option (Int×Int)
 | [.d (.int i),.d (.int j)]=>some (i,j)
 | [.d (.int j)]=>some (0,j)
 | _=>none
noncomputable def MU(i:Int)(n:Nat):List D:=(List.range n).map λk=>D.int (i+((k:Nat):Int))
noncomputable def xW(tp:Bool)(ds:List D):W:=if tp=true then .d (.tup ds) else .lv ds
def AY(tp:Bool)(ws:List W)(M:ab):bp W:=match ql ws with
 | some (i,j)=>if (-(2 ^ 62)<=i/\i<2 ^ 62/\-(2 ^ 62)<=j/\j<2 ^ 62)/\(j-i).toNat<=2 ^ 24 then .ok (xW tp (MU i (j-i).toNat)) M else .aa
 | none=>.aa
def u5(m:Me)(o:W)(ws:List D)(M:ab):bp W :=
 match o with
 | .d (.aX n)=>match M[n]? with
  | some (.lst ds)=>match m,ws with
   | .append,[x]=>if ds.length<sizeLine then .ok (.d .br) (M.set n (.lst (ds++[x]))) else .aa
   | .insert,[.int i,x]=>if ds.length<sizeLine/\0<=i/\i<=ds.length then .ok (.d .br) (M.set n (.lst (ds.take i.toNat++x::ds.drop i.toNat))) else .aa
   | .reverse,[]=>.ok (.d .br) (M.set n (.lst ds.reverse))
   | .clear,[]=>.ok (.d .br) (M.set n (.lst []))
   | .pop,[]=>match ds[ds.length-1]? with
    | some d=>.ok (.d d) (M.set n (.lst ds.dropLast))
    | none=>.aa
   | .pop,[.int i]=>match if 0<=i then ds[i.toNat]? else none with
    | some d=>.ok (.d d) (M.set n (.lst (ds.eraseIdx i.toNat)))
    | none=>.aa
   | .extend,[.aX k]=>match M[k]? with
    | some (.lst es)=>if ds.length+es.length<=sizeLine then .ok (.d .br) (M.set n (.lst (ds++es))) else .aa
    | _=>.aa
   | .extend,[.tup es]=>if ds.length+es.length<=sizeLine then .ok (.d .br) (M.set n (.lst (ds++es))) else .aa
   | .remove,[.int i]=>match oN ds with
    | some is=>if i∈is then .ok (.d .br) (M.set n (.lst ((is.erase i).map D.int))) else .aa
    | none=>.aa
   | .remove,[.tup ts]=>match dh M 30 ds,fU M 30 (.tup ts)with
    | some qs,some p=>if (qs.all SeqAt.shaped=true/\SeqAt.shaped p=true)/\qs.findIdx (PyData.eqv · p)<qs.length then .ok (.d .br) (M.set n (.lst (ds.eraseIdx (qs.findIdx (PyData.eqv · p))))) else .aa
    | _,_=>.aa
   | _,_=>.aa
  | _=>.aa
 | _=>.aa
inductive Z1 where
 | items (ds:List D) | at (n:Nat)
noncomputable def lR(M:ab):Z1->Option (List D)
 | .items ds=>some ds
 | .at n=>match M[n]? with
  | some (.lst ds)=>some ds
  | some (.jh ds)=>some ds
  | _=>none
def DZ(M:ab):W->Option Z1
 | .lv ds=>some (.items ds)
 | .d (.tup ds)=>some (.items ds)
 | .d (.ls ds)=>some (.items ds)
 | .d (.aX n)=>if (bL M (.d (.aX n))).isSome then some (.at n) else none
 | _=>none
noncomputable def jk(xs ys:List D)(i:Nat):Option D:=match xs[i]?,ys[i]? with
 | some x,some y=>some (.tup [x,y])
 | _,_=>none
inductive It where
 | at (n:Nat) | items (ds:List D) | gZ (lo:Int) (n:Nat) | qm (n:Nat) | ki (ds:List D) | zip (a b:Z1)
def itemAt(M:ab)(i:Nat):It->Option (Option D)
 | .at n=>match M[n]? with
  | some (.lst ds)=>some ds[i]?
  | some (.jh ds)=>some ds[i]?
  | _=>none
 | .items ds=>some ds[i]?
 | .gZ lo n=>some (if i<n then some (.int (lo+i)) else none)
 | .qm n=>match M[n]? with
  | some (.lst ds)=>some (ds[i]?.map λd=>.tup [.int i,d])
  | some (.jh ds)=>some (ds[i]?.map λd=>.tup [.int i,d])
  | _=>none
 | .ki ds=>some (ds[i]?.map λd=>.tup [.int i,d])
 | .zip a b=>match lR M a,lR M b with
  | some xs,some ys=>some (jk xs ys i)
  | _,_=>none
def bZ(M:ab):It->Nat
 | .at n=>match M[n]? with
  | some (.lst ds)=>ds.length
  | some (.jh ds)=>ds.length
  | _=>0
 | .items ds=>ds.length
 | .gZ _ n=>n
 | .qm n=>match M[n]? with
  | some (.lst ds)=>ds.length
  | some (.jh ds)=>ds.length
  | _=>0
 | .ki ds=>ds.length
 | .zip a b=>match lR M a,lR M b with
  | some xs,some ys=>min xs.length ys.length
  | _,_=>0
def rN(a b:W)(d:D)(M:ab):bp Unit:=match a with
 | .d (.aX n)=>match M[n]?,Rb b with
  | some (.dT ak),some k=>if ak.length<sizeLine then .ok () (M.set n (.dT (oO ak k d))) else .aa
  | _,_=>.aa
 | _=>.aa
noncomputable def Rf(i:Int)(n:Nat):List D:=(List.range n).map λk=>.int (i-(k:Nat))
noncomputable def iU(s:Str):List D:=s.cps.toList.map λc=>.str ⟨#[c]⟩
def fF(k:SK)(ws:List W)(M:ab):bp It :=
 match k,ws with
 | .seq,[.d (.str s)]=>if (s.cps.all λc=>decide (c<128))=true then .ok (.items (iU s)) M else .aa
 | .seq,[.lv ds]=>.ok (.items ds) M
 | .seq,[.d (.tup ds)]=>.ok (.items ds) M
 | .seq,[.d (.ls ds)]=>.ok (.items ds) M
 | .seq,[.d (.aX n)]=>if (bL M (.d (.aX n))).isSome then .ok (.at n) M else .aa
 | .rng1,[.d (.int j)]=>if -(2 ^ 62)<=j/\j<2 ^ 62 then .ok (.gZ 0 j.toNat) M else .aa
 | .rng2,[.d (.int i),.d (.int j)]=>if -(2 ^ 62)<=i/\i<2 ^ 62/\-(2 ^ 62)<=j/\j<2 ^ 62 then .ok (.gZ i (j-i).toNat) M else .aa
 | .enum,[.lv ds]=>.ok (.ki ds) M
 | .enum,[.d (.tup ds)]=>.ok (.ki ds) M
 | .enum,[.d (.ls ds)]=>.ok (.ki ds) M
 | .enum,[.d (.aX n)]=>if (bL M (.d (.aX n))).isSome then .ok (.qm n) M else .aa
 | .AW,[.d (.int i),.d (.int j),.d (.int k)]=>if k=-1/\-(2 ^ 62)<=i/\i<2 ^ 62/\-(2 ^ 62)<=j/\j<2 ^ 62 then .ok (.items (Rf i (i-j).toNat)) M else .aa
 | .keys,[.d (.aX n)]=>match M[n]? with
  | some (.dT ak)=>.ok (.items (ak.map MP)) (M.set n (.dF ak))
  | some (.dF ak)=>.ok (.items (ak.map MP)) M
  | some (.dK ak)=>.ok (.items (ak.map MQ)) (M.set n (.dG ak))
  | some (.dG ak)=>.ok (.items (ak.map MQ)) M
  | _=>.aa
 | .vals,[.d (.aX n)]=>match M[n]? with
  | some (.dT ak)=>.ok (.items (ak.map (·.2))) (M.set n (.dF ak))
  | some (.dF ak)=>.ok (.items (ak.map (·.2))) M
  | _=>.aa
 | .zip,[u,v]=>match DZ M u,DZ M v with
  | some a,some b=>.ok (.zip a b) M
  | _,_=>.aa
 | _,_=>.aa
noncomputable def cN(tg:List Nat)(ds:List D)(ρ:En):Option En :=
 match tg,ds with
 | [],[]=>some ρ
 | i::tg,d::ds=>cN tg ds (ρ.set i (some d))
 | _,_=>none
def bJ(tg:List Nat)(d:D)(ρ:En):Option En :=
 match tg with
 | [i]=>some (ρ.set i (some d))
 | _=>match d with
  | .tup ds=>cN tg ds ρ
  | _=>none
abbrev bf:=Nat->List D->ab->bp W
noncomputable def d_(bY:List (Option Nat))(ρ:En):En:=bY.map λo=>o.bind λj=>(ρ[j]?).join
def a8(cond:En->ab->bp Bool)(elt:En->ab->bp D)(it:It)(tg:List Nat):Nat->Nat->En->ab->List D->bp W
  | 0,i,_,M,aB=>match itemAt M i it with
    | some none=>.ok (.lv aB) M
    | _=>.aa
  | f+1,i,τ,M,aB=>match itemAt M i it with
    | some none=>.ok (.lv aB) M
    | some (some d)=>match bJ tg d τ with
      | none=>.aa
      | some τ => if aB.length < sizeLine then
          (cond τ M).b0 λb M=>if b then (elt τ M).b0 λx M=>a8 cond elt it tg f (i+1) τ M (aB++[x]) else a8 cond elt it tg f (i+1) τ M aB
        else .aa
    | none=>.aa
noncomputable def rO(ng:Bool)(x:W)(M:ab):bp W:=match x with
 | .d (.bl b)=>.ok (.d (.bl (ng != b))) M
 | _=>.aa
noncomputable def Pa(f:Str)(x:W)(M:ab):bp W:=match x with
 | .d (.aX n)=>match M[n]? with
  | some (.xc _ fs)=>match fs.lookup f with
   | some d=>.ok (.d d) M
   | none=>.aa
  | _=>.aa
 | _=>.aa
noncomputable def AZ(tb:List (Addr×Bool))(x:W)(M:ab):bp W:=match x with
 | .d (.aX n)=>match M[n]? with
  | some (.xc C _)=>match tb.lookup C with
   | some b=>.ok (.d (.bl b)) M
   | none=>.aa
  | _=>.aa
 | _=>.aa
noncomputable def kj:List D->Option (List Str)
 | []=>some []
 | .str x::ds=>(kj ds).map (x::·)
 | _=>none
noncomputable def jl(cC:Str):List Str->Str
 | [x]=>x
 | xs=>Builtin.Str.glued cC xs
def km(cC:Str)(w:W)(M:ab):bp W:=match w with
 | .lv ds=>match kj ds with
  | some xs=>if Builtin.Str.tooLong (xs.toArray.foldl (λa b=>a+b.length+cC.length) 0)=false/\(jl cC xs).length<=sizeLine then .ok (.d (.str (jl cC xs))) M else .aa
  | none=>.aa
 | _=>.aa
noncomputable def Jj:W->Option Str
 | .d (.str s)=>some s
 | .d (.int i)=>if i.natAbs.log2<1920 then some (Str.ofString (toString i)) else none
 | _=>none
def A_(lit:Str)(x:W):Option Str:=(Jj x).bind λp=>if (Str.empty++p).length<=sizeLine/\(Str.empty++p++lit).length<=sizeLine/\p.length<=sizeLine then some p else none
def D0(lit p:Str)(y:W)(M:ab):bp W:=match Jj y with
 | some r=>if (Str.empty++p++lit++r).length<=sizeLine/\r.length<=sizeLine then .ok (.d (.str (Str.empty++p++lit++r))) M else .aa
 | none=>.aa
noncomputable def qo(x y:W)(M:ab):bp W:=match x,y with
 | .d (.str p),.d (.str q)=>if p.length+q.length<=sizeLine then .ok (.d (.str (p++q))) M else .aa
 | _,_=>.aa
def nh(tt:lC)(y:W)(M:ab):bp W:=match y with
 | .d (.str k)=>match tt.lookup k with
  | some p=>.ok (.d (O_ p)) M
  | none=>.aa
 | _=>.aa
noncomputable def uB(tt:lC)(y:W)(M:ab):bp W:=match y with
 | .d (.str k)=>.ok (.d (.bl (tt.lookup k).isNone)) M
 | _=>.aa
def oP(x:W)(M:ab):bp W:=match qk M x with
 | some g=>.ok (.d (.bl (decide (g=.tuple)||decide (g=.list)))) M
 | none=>.aa
noncomputable def gI(pt:Bool)(a b:W)(M:ab):bp W:=match a,b with
 | .d (.str x),.d (.str y)=>if (y.length==0)=false/\x.length<=sizeLine/\(Txt.split x y).length<=sizeLine then (match pt with
  | true=>.ok (.d (.tup [.str (Txt.partition x y).1,.str (Txt.partition x y).2.1,.str (Txt.partition x y).2.2])) M
  | false=>.ok (.lv ((Txt.split x y).map D.str)) M) else .aa
 | _,_=>.aa
noncomputable def uC(ρ:En)(i:Nat)(tb:List (Addr×Nat)):Option Nat:=match ρ[i]? with
 | some (some (.fn a))=>tb.lookup a
 | _=>none
mutual
noncomputable def ev(G:bf):C->En->ab->bp W
  | .jC i,ρ,M=>match ρ[i]? with
    | some (some d)=>.ok (.d d) M
    | _=>.aa
  | .a_ d,_,M=>.ok (.d d) M
  | .bin op a b,ρ,M=>(ev G a ρ M).bind λx M=>(ev G b ρ M).bind λy M=>lP op x y M
  | .cmp op a b,ρ,M=>(ev G a ρ M).bind λx M=>(ev G b ρ M).bind λy M=>(bM op x y M).bind λr M=>.ok (.d (.bl r)) M
  | .chain o1 o2 a b c, ρ, M => (ev G a ρ M).bind fun x M => (ev G b ρ M).bind fun y M => (bM o1 x y M).bind fun r M =>
      if r then (ev G c ρ M).bind λz M=>(bM o2 y z M).bind λr M=>.ok (.d (.bl r)) M else .ok (.d (.bl false)) M
  | .dE cs,ρ,M=>gu G cs ρ M
  | .eF cs,ρ,M=>lS G cs ρ M
  | .neg a,ρ,M=>(ev G a ρ M).bind λx M=>match x with
    | .d (.bl r)=>.ok (.d (.bl (!r))) M
    | _=>.aa
  | .ite c a b,ρ,M=>(cT G c ρ M).bind λr M=>if r then ev G a ρ M else ev G b ρ M
  | .tup cs,ρ,M=>(a9 G cs ρ M).bind λds M=>if ds.length<=sizeLine then .ok (.d (.tup ds)) M else .aa
  | .lst cs,ρ,M=>(a9 G cs ρ M).bind λds M=>if ds.length<=sizeLine then .ok (.lv ds) M else .aa
  | .sub a b,ρ,M=>(ev G a ρ M).bind λx M=>(ev G b ρ M).bind λy M=>dw x y M
  | .rM a lo hi,ρ,M=>(ev G a ρ M).bind λx M=>(nN G lo ρ M).bind λl M=>(nN G hi ρ M).bind λh M=>kh x l h M
  | .call f cs,ρ,M=>(a9 G cs ρ M).bind λds M=>G f ds M
  | .bi b cs,ρ,M=>(cq G cs ρ M).bind λws M=>ic b ws M
  | .me m o cs,ρ,M=>(ev G o ρ M).bind λx M=>if (dH M x).isSome then (a9 G cs ρ M).bind λds M=>u5 m x ds M else .aa
  | .uZ ks cs,ρ,M=>(a9 G cs ρ M).bind λds M=>if ks.length=ds.length then .ok (.d (.aX M.length)) (M++[.dK ((ks.map Sum.inr).zip ds)]) else .aa
  | .gZ tp cs,ρ,M=>(cq G cs ρ M).bind λws M=>AY tp ws M
  | .uy _ v,_,M=>.ok (.d (.int v)) M
  | .lM ng a,ρ,M=>(ev G a ρ M).bind λx M=>rO ng x M
  | .lN pt a b,ρ,M=>(ev G a ρ M).bind λx M=>match x with
    | .d (.str z)=>(ev G b ρ M).bind λy M=>gI pt (.d (.str z)) y M
    | _=>.aa
  | .uz lit a b,ρ,M=>(ev G a ρ M).bind λx M=>match A_ lit x with
    | some p=>(ev G b ρ M).bind λy M=>D0 lit p y M
    | none=>.aa
  | .cat a b,ρ,M=>(ev G a ρ M).bind λx M=>(ev G b ρ M).bind λy M=>qo x y M
  | .ib _ tt b,ρ,M=>(ev G b ρ M).bind λy M=>nh tt y M
  | .lO _ tt a,ρ,M=>(ev G a ρ M).bind λy M=>uB tt y M
  | .u4 a,ρ,M=>(ev G a ρ M).bind λx M=>oP x M
  | .qi cC a,ρ,M=>(ev G a ρ M).bind λw M=>km cC w M
  | .oK _ a,_,M=>.ok (.d (.fn a)) M
  | .qj _ v,_,M=>.ok (.d (.str v)) M
  | .cM i tb cs,ρ,M=>match uC ρ i tb with
    | some f=>(a9 G cs ρ M).bind λds M=>G f ds M
    | none=>.aa
  | .xf a f,ρ,M=>(ev G a ρ M).bind λx M=>Pa f x M
  | .AX a _ tb,ρ,M=>(ev G a ρ M).bind λx M=>AZ tb x M
  | .jj f cs,ρ,M=>(a9 G cs ρ M).bind λds M=>(G f ds M).b0 .ok
  | .comp k cF tg cond elt bY, ρ, M => (cq G cF ρ M).bind fun ws M => (fF k ws M).bind fun it M =>
      a8 (λτ M=>bq G cond τ M) (λτ M=>(ev G elt τ M).bind own) it tg (bZ M it) 0 (d_ bY ρ) M []
noncomputable def cT(G:bf):dv->En->ab->bp Bool
 | .dE ts,ρ,M=>ed G ts ρ M
 | .eF ts,ρ,M=>ef G ts ρ M
 | .neg a,ρ,M=>(cT G a ρ M).bind λr M=>.ok (!r) M
 | .val c,ρ,M=>(ev G c ρ M).bind λw M=>match lQ M w with
  | some r=>.ok r M
  | none=>.aa
noncomputable def gu(G:bf):List C->En->ab->bp W
 | [],_,_=>.aa
 | c::cs,ρ,M=>(ev G c ρ M).bind λx M=>match cs,x with
  | [],x=>.ok x M
  | _,.d (.bl true)=>gu G cs ρ M
  | _,.d (.bl false)=>.ok (.d (.bl false)) M
  | _,_=>.aa
noncomputable def lS(G:bf):List C->En->ab->bp W
 | [],_,_=>.aa
 | c::cs,ρ,M=>(ev G c ρ M).bind λx M=>match cs,x with
  | [],x=>.ok x M
  | _,.d (.bl false)=>lS G cs ρ M
  | _,.d (.bl true)=>.ok (.d (.bl true)) M
  | _,_=>.aa
noncomputable def ed(G:bf):List dv->En->ab->bp Bool
 | [],_,_=>.aa
 | c::cs,ρ,M=>(cT G c ρ M).bind λx M=>match cs,x with
  | [],x=>.ok x M
  | _,true=>ed G cs ρ M
  | _,false=>.ok false M
noncomputable def ef(G:bf):List dv->En->ab->bp Bool
 | [],_,_=>.aa
 | c::cs,ρ,M=>(cT G c ρ M).bind λx M=>match cs,x with
  | [],x=>.ok x M
  | _,false=>ef G cs ρ M
  | _,true=>.ok true M
noncomputable def a9(G:bf):List C->En->ab->bp (List D)
 | [],_,M=>.ok [] M
 | c::cs,ρ,M=>((ev G c ρ M).bind own).bind λd M=>(a9 G cs ρ M).bind λds M=>.ok (d::ds) M
noncomputable def cq(G:bf):List C->En->ab->bp (List W)
 | [],_,M=>.ok [] M
 | c::cs,ρ,M=>(ev G c ρ M).bind λd M=>(cq G cs ρ M).bind λds M=>.ok (d::ds) M
noncomputable def nN(G:bf):Option C->En->ab->bp (Option Int)
 | none,_,M=>.ok none M
 | some c,ρ,M=>(ev G c ρ M).bind λw M=>match w with
  | .d (.int i)=>.ok (some i) M
  | _=>.aa
noncomputable def bq(G:bf):Option dv->En->ab->bp Bool
 | none,_,M=>.ok true M
 | some c,ρ,M=>cT G c ρ M
end
section
variable {G:bf} {lo hi:Option C} {cond:Option dv}
theorem xX : ev G (.jC i) ρ M = (match ρ[i]? with
    | some (some d)=>.ok (.d d) M
    | _=>.aa):=rfl
theorem Gu:ev G (.a_ d) u0 M=.ok (.d d) M:=rfl
theorem Gw:ev G (.bin op a b) ρ M=(ev G a ρ M).bind λx M=>(ev G b ρ M).bind λy M=>lP op x y M:=rfl
theorem xY:ev G (.cmp op a b) ρ M=(ev G a ρ M).bind λx M=>(ev G b ρ M).bind λy M=>(bM op x y M).bind λr M=>.ok (.d (.bl r)) M:=rfl
theorem oQ : ev G (.chain o1 o2 a b c) ρ M = ((ev G a ρ M).bind fun x M => (ev G b ρ M).bind fun y M => (bM o1 x y M).bind fun r M =>
      if r then (ev G c ρ M).bind λz M=>(bM o2 y z M).bind λr M=>.ok (.d (.bl r)) M else .ok (.d (.bl false)) M):=rfl
theorem Ba:ev G (.dE cs) ρ M=gu G cs ρ M:=rfl
theorem Bb:ev G (.eF cs) ρ M=lS G cs ρ M:=rfl
theorem Gx : ev G (.neg a) ρ M = ((ev G a ρ M).bind fun x M => match x with
    | .d (.bl r)=>.ok (.d (.bl (!r))) M
    | _=>.aa):=rfl
theorem xZ:ev G (.ite c a b) ρ M=(cT G c ρ M).bind λr M=>if r then ev G a ρ M else ev G b ρ M:=rfl
theorem x3:ev G (.tup cs) ρ M=(a9 G cs ρ M).bind λds M=>if ds.length<=sizeLine then .ok (.d (.tup ds)) M else .aa:=rfl
theorem x4:ev G (.lst cs) ρ M=(a9 G cs ρ M).bind λds M=>if ds.length<=sizeLine then .ok (.lv ds) M else .aa:=rfl
theorem Gy:ev G (.sub a b) ρ M=(ev G a ρ M).bind λx M=>(ev G b ρ M).bind λy M=>dw x y M:=rfl
theorem Gz:ev G (.rM a lo hi) ρ M=(ev G a ρ M).bind λx M=>(nN G lo ρ M).bind λl M=>(nN G hi ρ M).bind λh M=>kh x l h M:=rfl
theorem rP:ev G (.call f cs) ρ M=(a9 G cs ρ M).bind λds M=>G f ds M:=rfl
theorem x5:ev G (.bi b cs) ρ M=(cq G cs ρ M).bind λws M=>ic b ws M:=rfl
theorem x6:ev G (.me m o cs) ρ M=(ev G o ρ M).bind λx M=>if (dH M x).isSome then (a9 G cs ρ M).bind λds M=>u5 m x ds M else .aa:=rfl
theorem qp:ev G (.uZ ks cs) ρ M=(a9 G cs ρ M).bind λds M=>if ks.length=ds.length then .ok (.d (.aX M.length)) (M++[.dK ((ks.map Sum.inr).zip ds)]) else .aa:=rfl
theorem GA:ev G (.gZ tp cs) ρ M=(cq G cs ρ M).bind λws M=>AY tp ws M:=rfl
theorem GB:ev G (.uy u0 v) u1 M=.ok (.d (.int v)) M:=rfl
theorem Bc:ev G (.lM ng a) ρ M=(ev G a ρ M).bind λx M=>rO ng x M:=rfl
theorem MV{f:Str}:ev G (.xf a f) ρ M=(ev G a ρ M).bind λx M=>Pa f x M:=rfl
theorem GC{k:IX}{tb:List (Addr×Bool)}:ev G (.AX a k tb) ρ M=(ev G a ρ M).bind λx M=>AZ tb x M:=rfl
theorem x8:ev G (.jj f cs) ρ M=(a9 G cs ρ M).bind λds M=>(G f ds M).b0 .ok:=rfl
theorem GD{y:Str}{a:Addr}:ev G (.oK y a) u0 M=.ok (.d (.fn a)) M:=rfl
theorem GF {pt : Bool} : ev G (.lN pt a b) ρ M = ((ev G a ρ M).bind fun x M => match x with
    | .d (.str z)=>(ev G b ρ M).bind λy M=>gI pt (.d (.str z)) y M
    | _=>.aa):=rfl
theorem x9 {lit : Str} : ev G (.uz lit a b) ρ M = ((ev G a ρ M).bind fun x M => match A_ lit x with
    | some p=>(ev G b ρ M).bind λy M=>D0 lit p y M
    | none=>.aa):=rfl
theorem GG:ev G (.cat a b) ρ M=(ev G a ρ M).bind λx M=>(ev G b ρ M).bind λy M=>qo x y M:=rfl
theorem rQ{x:Str}{tt:lC}:ev G (.ib x tt b) ρ M=(ev G b ρ M).bind λy M=>nh tt y M:=rfl
theorem qq{x:Str}{tt:lC}:ev G (.lO x tt a) ρ M=(ev G a ρ M).bind λy M=>uB tt y M:=rfl
theorem x_:ev G (.u4 a) ρ M=(ev G a ρ M).bind λx M=>oP x M:=rfl
theorem GH{cC:Str}:ev G (.qi cC a) ρ M=(ev G a ρ M).bind λw M=>km cC w M:=rfl
theorem GI{x v:Str}:ev G (.qj x v) u0 M=.ok (.d (.str v)) M:=rfl
theorem oR{i:Nat}{tb:List (Addr×Nat)}:ev G (.cM i tb cs) ρ M=(match uC ρ i tb with
 | some f=>(a9 G cs ρ M).bind λds M=>G f ds M
 | none=>.aa):=rfl
theorem ni : ev G (.comp k cF tg cond elt bY) ρ M = ((cq G cF ρ M).bind fun ws M => (fF k ws M).bind fun it M =>
      a8 (λτ M=>bq G cond τ M) (λτ M=>(ev G elt τ M).bind own) it tg (bZ M it) 0 (d_ bY ρ) M []):=rfl
theorem ya:cT G (.dE ts) ρ M=ed G ts ρ M:=rfl
theorem yb:cT G (.eF ts) ρ M=ef G ts ρ M:=rfl
theorem Bd:cT G (.neg a) ρ M=(cT G a ρ M).bind λr M=>.ok (!r) M:=rfl
theorem nj : cT G (.val c) ρ M = ((ev G c ρ M).bind fun w M => match lQ M w with
    | some r=>.ok r M
    | none=>.aa):=rfl
theorem iV:gu G [] u0 u1=.aa:=rfl
theorem gJ : gu G (c :: cs) ρ M = ((ev G c ρ M).bind fun x M => match cs, x with
    | [],x=>.ok x M
    | _,.d (.bl true)=>gu G cs ρ M
    | _,.d (.bl false)=>.ok (.d (.bl false)) M
    | _,_=>.aa):=rfl
theorem ko:lS G [] u0 u1=.aa:=rfl
theorem iX : lS G (c :: cs) ρ M = ((ev G c ρ M).bind fun x M => match cs, x with
    | [],x=>.ok x M
    | _,.d (.bl false)=>lS G cs ρ M
    | _,.d (.bl true)=>.ok (.d (.bl true)) M
    | _,_=>.aa):=rfl
theorem iY:ed G [] u0 u1=.aa:=rfl
theorem gK : ed G (c :: cs) ρ M = ((cT G c ρ M).bind fun x M => match cs, x with
    | [],x=>.ok x M
    | _,true=>ed G cs ρ M
    | _,false=>.ok false M):=rfl
theorem iZ:ef G [] u0 u1=.aa:=rfl
theorem gL : ef G (c :: cs) ρ M = ((cT G c ρ M).bind fun x M => match cs, x with
    | [],x=>.ok x M
    | _,false=>ef G cs ρ M
    | _,true=>.ok true M):=rfl
theorem eO:a9 G [] u0 M=.ok [] M:=rfl
theorem dM:a9 G (c::cs) ρ M=((ev G c ρ M).bind own).bind λd M=>(a9 G cs ρ M).bind λds M=>.ok (d::ds) M:=rfl
theorem eP:cq G [] u0 M=.ok [] M:=rfl
theorem dN:cq G (c::cs) ρ M=(ev G c ρ M).bind λd M=>(cq G cs ρ M).bind λds M=>.ok (d::ds) M:=rfl
theorem kr:nN G none u0 M=.ok none M:=rfl
theorem ku : nN G (some c) ρ M = ((ev G c ρ M).bind fun w M => match w with
    | .d (.int i)=>.ok (some i) M
    | _=>.aa):=rfl
end
section
variable [EX]
def GJ(K:PySem.W.Frag)(ads:List Addr)(H₀ H:Hp):W->V->Prop
 | .d x,v=>RD K ads H x v
 | .lv ds,v=>∃a xs,v=.ref a/\H₀ a=none/\H a=some (.lst xs)/\a∉ads/\aF K ads H ds xs
def jm(K:PySem.W.Frag)(ads:List Addr)(H:Hp)(w:W)(M':ab)(Q:VK):Prop :=
 ∀v H' ao,ay ads ao H H'->aJ K ao H' M'->GJ K ao H H' w v->Q v H'
def GK(K:PySem.W.Frag)(ads:List Addr)(H:Hp)(ds:List D)(M':ab)(Q:List V->Hp->Prop):Prop :=
 ∀vs H' ao,ay ads ao H H'->aJ K ao H' M'->aF K ao H' ds vs->Q vs H'
def MW(K:PySem.W.Frag)(ads:List Addr)(H:Hp)(b:Bool)(M':ab)(Q:Bool->Hp->Prop):Prop :=
 ∀H' ao,ay ads ao H H'->aJ K ao H' M'->Q b H'
def bg(K:PySem.W.Frag)(ads:List Addr)(H:Hp)(Q:VK):bp W->Prop
 | .ok w M=>jm K ads H w M Q
 | .err x M=>EX.post K ads H x M
 | .aa=>False
def oS(K:PySem.W.Frag)(ads:List Addr)(H:Hp)(Q:List V->Hp->Prop):bp (List D)->Prop
 | .ok w M=>GK K ads H w M Q
 | .err x M=>EX.post K ads H x M
 | .aa=>False
def zH(K:PySem.W.Frag)(ads:List Addr)(H:Hp)(Q:Bool->Hp->Prop):bp Bool->Prop
 | .ok w M=>MW K ads H w M Q
 | .err x M=>EX.post K ads H x M
 | .aa=>False
structure SR (K:PySem.W.Frag) (ads:List Addr) (M:ab) (ρ:En) (σ:L2.St) (H:Hp):Prop where
 mem:aJ K ads H M
 en:MI K ads H ρ σ
 ln:ρ.length=σ.length
def tE(K:PySem.W.Frag)(o:En->ab->bp W):TE:=λσ H Q=>∃ads M ρ,SR K ads M ρ σ H/\bg K ads H Q (o ρ M)
def zI(K:PySem.W.Frag)(o:En->ab->bp (List D)):TA:=λσ H Q=>∃ads M ρ,SR K ads M ρ σ H/\oS K ads H Q (o ρ M)
def lD(K:PySem.W.Frag)(o:En->ab->bp Bool):TT:=λσ H Q=>∃ads M ρ,SR K ads M ρ σ H/\zH K ads H Q (o ρ M)
section
variable {K:PySem.W.Frag} {ads ao aO:List Addr} {H H' H2:Hp} {M M2:ab} {ρ:En} {σ:L2.St}
theorem GJ.rw{H₀:Hp}{w:W}{v:V}(h:GJ K ads H₀ H w v):RW K ads H w v:=by
 cases w with
 | d x=>exact h
 | lv ds=>obtain⟨a,xs,e,_,h1,n,r⟩:=h;exact⟨a,xs,e,h1,n,r⟩
theorem SR.grow(s:SR K ads M ρ σ H)(g:ay ads ao H H')(m:aJ K ao H' M2):SR K ao M2 ρ σ H':=⟨m,g.Tg s.en,s.ln⟩
theorem uD(g:ay ads ao H H')(m:aJ K ads H M)(m':aJ K ao H' M2){a:Addr}(h:H' a=none):H a=none:=by
 by_cases hb:a∈ads
 ·have:a∈ao:=by obtain⟨r,e⟩:=g.pre;rw[e];exact zS _ hb
  exact absurd this (m'.fresh h)
 ·cases q:H a with
  | none=>rfl
  | some o=>rw[g.kept a o hb q]at h;cases h
theorem GJ.back{w:W}{v:V}(g:ay ads ao H H')(m:aJ K ads H M)(m':aJ K ao H' M2)(h:GJ K aO H' H2 w v):GJ K aO H H2 w v:=by
 cases w with
 | d x=>exact h
 | lv ds=>obtain⟨a,xs,e,h0,h1,n,r⟩:=h;exact⟨a,xs,e,uD g m m' h0,h1,n,r⟩
theorem jm.shift{w:W}{Mw:ab}{Q:VK}(p:jm K ads H w Mw Q)(g:ay ads ao H H')(m:aJ K ads H M)(m':aJ K ao H' M2):jm K ao H' w Mw Q :=
 λv H1 ae g1 m1 r=>p v H1 ae (g.trans g1) m1 (r.back g m m')
theorem bg.shift{o:bp W}{Q:VK}(p:bg K ads H Q o)(g:ay ads ao H H')(m:aJ K ads H M)(m':aJ K ao H' M2):bg K ao H' Q o:=by
 cases o with
 | ok w Mw=>exact jm.shift p g m m'
 | err _ _=>exact EX.shift p g
 | aa=>exact p
theorem zH.shift{o:bp Bool}{Q:Bool->Hp->Prop}(p:zH K ads H Q o)(g:ay ads ao H H'):zH K ao H' Q o:=by
 cases o with
 | ok w Mw=>exact λH1 ae g1 m1=>p H1 ae (g.trans g1) m1
 | err _ _=>exact EX.shift p g
 | aa=>exact p
theorem bg.imp{e1 e2:EX}(im:∀{K:PySem.W.Frag}{ads:List Addr}{H:Hp}{x:xT}{M:ab},e1.post K ads H x M->e2.post K ads H x M){o:bp W}{Q:VK}(p:@bg e1 K ads H Q o):@bg e2 K ads H Q o:=by
 cases o with
 | ok w Mw=>exact p
 | err _ _=>exact im p
 | aa=>exact p
theorem bQ{o:En->ab->bp W}{k:W->ab->bp W}{Q:VK}{R:V->Hp->Prop}(s:SR K ads M ρ σ H)(h:bg K ads H Q ((o ρ M).bind k))(hk:∀w M1 v H1 ae,SR K ae M1 ρ σ H1->RW K ae H1 w v->bg K ae H1 Q (k w M1)->R v H1):tE K o σ H R:=by
 refine⟨ads,M,ρ,s,?_⟩
 cases q:o ρ M with
 | ok w M1 =>
  rw[q]at h;have h:bg K ads H Q (k w M1):=h;exact λv H1 ae g1 m1 r=>hk w M1 v H1 ae (s.grow g1 m1) r.rw (h.shift g1 s.mem m1)
 | err _ _=>rw[q]at h;exact h
 | aa=>rw[q]at h;exact h
theorem two{oa ob:En->ab->bp W}{f:W->W->ab->bp W}{r:R2}{Q:VK}(hr:∀ {ads M H x y vx vy Q},aJ K ads H M->RW K ads H x vx->RW K ads H y vy->bg K ads H Q (f x y M)->r vx vy H Q)(h:tE K (λρ M=>(oa ρ M).bind λx M=>(ob ρ M).bind λy M=>f x y M) σ H Q):FN r (tE K oa) (tE K ob) σ H Q:=by
 obtain⟨ads,M,ρ,s,h⟩:=h;refine bQ s h λw M1 v H1 ae s1 i0 h1=>?_;refine⟨ae,M1,ρ,s1,?_⟩
 cases q:ob ρ M1 with
 | ok y M2 =>
  rw[q]at h1;have h1:bg K ae H1 Q (f w y M2):=h1;exact λvy H2 aO g2 m2 ry=>hr m2 (g2.rw i0) ry.rw (h1.shift g2 s1.mem m2)
 | err _ _=>rw[q]at h1;exact h1
 | aa=>rw[q]at h1;exact h1
theorem bg.plain{Q:VK}{x:D}{v:V}(h:bg K ads H Q (.ok (.d x) M))(m:aJ K ads H M)(r:RD K ads H x v):Q v H:=h v H ads (ay.refl _ _) m r
theorem bg.list{Q:VK}{ds:List D}{xs:List V}(h:bg K ads H Q (.ok (.lv ds) M))(m:aJ K ads H M)(r:aF K ads H ds xs){p:Addr}(hp:H p=none):Q (.ref p) (bw H p (.lst xs)) :=
 h _ _ ads (ay.e9 m hp) (m.e9 hp) ⟨p,xs,rfl,hp,bx,m.fresh hp,(ay.e9 m hp).lL _ _ r⟩
theorem bg.tuple{Q:VK}{ds:List D}{xs:List V}(h:bg K ads H Q (.ok (.d (.tup ds)) M))(m:aJ K ads H M)(r:aF K ads H ds xs){p:Addr}(hp:H p=none):Q (.ref p) (bw H p (.tup xs)):=by
 refine h _ _ ads (ay.e9 m hp) (m.e9 hp) ?_;show RD _ _ _ (.tup ds) _;unfold RD;exact⟨p,xs,rfl,bx,(ay.e9 m hp).lL _ _ r⟩
theorem eG{w:W}{v:V}{l:Bool}{ds:List D}(m:aJ K ads H M)(r:RW K ads H w v)(e:bL M w=some (l,ds)):∃a xs,v=.ref a/\aF K ads H ds xs/\((l=true/\d5 K H a xs)\/(l=false/\eJ K H a xs)):=by
 cases w with
 | lv es =>
  simp only[bL,pS,tP]at e;obtain⟨rfl,rfl⟩:=e;obtain⟨a,xs,e,h,n,r⟩:=r;exact⟨a,xs,e,r,.inl ⟨rfl,d5.of h⟩⟩
 | d x =>
  cases x with
  | tup es =>
   simp only[bL,pS,tP]at e;obtain⟨rfl,rfl⟩:=e;have r:RD K ads H (.tup es) v:=r;unfold RD at r;obtain⟨a,xs,e,h,r⟩:=r;exact⟨a,xs,e,r,.inr ⟨rfl,eJ.of h⟩⟩
  | ls es =>
   simp only[bL,pS,tP]at e;obtain⟨rfl,rfl⟩:=e;have r:RD K ads H (.ls es) v:=r;unfold RD at r;obtain⟨a,xs,e,h,r⟩:=r;exact⟨a,xs,e,r,.inl ⟨rfl,h.sq⟩⟩
  | aX n =>
   have r:RD K ads H (.aX n) v:=r;unfold RD at r;obtain⟨a,ev,ea⟩:=r;unfold bL at e;dsimp only at e
   cases q:M[n]? with
   | none=>rw[q]at e;cases e
   | some o =>
    rw[q]at e;have ho:=m.obj n o a q ea
    cases o with
    | lst es=>cases e;obtain⟨xs,h,r⟩:=ho;exact⟨a,xs,ev,r,.inl ⟨rfl,d5.of h⟩⟩
    | jh es=>cases e;obtain⟨o,xs,h,r⟩:=ho;exact⟨a,xs,ev,r,.inl ⟨rfl,.inl (.inr ⟨o,h⟩)⟩⟩
    | dK _=>cases e
    | dT _=>cases e
    | dF _=>cases e
    | dG _=>cases e
    | xc _ _=>cases e
  | br=>cases e
  | bl _=>cases e
  | int _=>cases e
  | str _=>cases e
  | fn _=>cases e
  | tg _=>cases e
theorem kx{w:W}{v:V}{ds:List D}(m:aJ K ads H M)(r:RW K ads H w v)(e:dH M w=some ds):∃a xs,v=.ref a/\aF K ads H ds xs/\H a=some (.lst xs):=by
 cases w with
 | lv es =>
  simp only[dH,pS]at e;subst e;obtain⟨a,xs,e,h,n,r⟩:=r;exact⟨a,xs,e,r,h⟩
 | d x =>
  cases x with
  | aX n =>
   have r:RD K ads H (.aX n) v:=r;unfold RD at r;obtain⟨a,ev,ea⟩:=r;simp only[dH]at e
   cases q:M[n]? with
   | none=>rw[q]at e;cases e
   | some o =>
    rw[q]at e;have ho:=m.obj n o a q ea
    cases o with
    | lst es=>cases e;obtain⟨xs,h,r⟩:=ho;exact⟨a,xs,ev,r,h⟩
    | jh es=>cases e
    | dK _=>cases e
    | dT _=>cases e
    | dF _=>cases e
    | dG _=>cases e
    | xc _ _=>cases e
  | tup _=>cases e
  | ls _=>cases e
  | br=>cases e
  | bl _=>cases e
  | int _=>cases e
  | str _=>cases e
  | fn _=>cases e
  | tg _=>cases e
theorem aP{i:Int}{v:V}(r:RW K ads H (.d (.int i)) v):v=.int i:=by
 have r:RD K ads H (.int i) v:=r;unfold RD at r;exact r
theorem bz{i:Str}{v:V}(r:RW K ads H (.d (.str i)) v):v=.str i:=by
 have r:RD K ads H (.str i) v:=r;unfold RD at r;exact r
theorem ie{i:Bool}{v:V}(r:RW K ads H (.d (.bl i)) v):v=.bl i:=by
 have r:RD K ads H (.bl i) v:=r;unfold RD at r;exact r
theorem kz{v:V}(r:RW K ads H (.d .br) v):v=.br:=by
 have r:RD K ads H .br v:=r;unfold RD at r;exact r
theorem cy(i:Int):RD K ads H (.int i) (.int i):=by unfold RD;rfl
theorem gv(i:Bool):RD K ads H (.bl i) (.bl i):=by unfold RD;rfl
theorem dY(i:Str):RD K ads H (.str i) (.str i):=by unfold RD;rfl
theorem kA:RD K ads H .br .br:=by unfold RD;rfl
end
section
variable {X:Cx}
def Rg(K:PySem.W.Frag)(op:zG):R2:=λx y H Q=>∃ads M wx wy,aJ K ads H M/\RW K ads H wx x/\RW K ads H wy y/\bg K ads H Q (lP op wx wy M)
noncomputable def Be:zG->Operator
 | .add=>.Add | .sub=>.Sub | .mul=>.Mult | .fdiv=>.FloorDiv | .mod=>.Mod | .pow=>.Pow
theorem Bf:fR X (binaryOp .Add) (λx y H Q=>∃a b ys,x=.ref a/\y=.ref b/\eJ X.K H a []/\eJ X.K H b ys/\Q (.ref b) H):=by
 intro pins s σ H x y v u Q I rx ry h;obtain⟨a,b,ys,rfl,rfl,ha,hb,q⟩:=h;cases rx;cases ry;obtain⟨ax,r1,p1,_⟩:=I.tuple ha;obtain⟨xx,r2,p2,_⟩:=I.tuple hb;cases r1;obtain⟨⟨cls,dd,data,sl⟩,ho,hc,n,hd⟩:=id p1;obtain⟨⟨Qu,OW,data2,OX⟩,F5,DQ,n2,Aw⟩:=id p2;simp only at hc hd DQ Aw;subst hc hd DQ Aw
 exact concat_meets ⟨_,ho,rfl⟩ ⟨_,F5,rfl⟩ noFill_tuple_add seq_tuple_add EK EH (EG _ _)
  (tuple_addW0 a b _ xx.toArray n n2 dd OW sl OX rfl) ⟨ho,F5,⟨.ref b,H,I,rfl,q⟩⟩
theorem aF.rep{K:PySem.W.Frag}{ads:List Addr}{H:Hp}{ds:List D}{vs:List V}(r:aF K ads H ds vs):∀k:Nat,aF K ads H (List.replicate k ds).flatten (List.replicate k vs).flatten
 | 0=>by simp;unfold aF;rfl
 | k+1=>by simp only[tD,vc];exact r.app (aF.rep r k)
theorem GL(op:zG):fR X (binaryOp (Be op)) (Rg X.K op):=by
 intro pins s σ H x y v u Q I rx ry h;obtain⟨ads,M,wx,wy,m,r1,r2,h⟩:=h
 have MX:∀ {op},op=zG.add->bg X.K ads H Q (match dH M wx,dH M wy with
  | some xs,some ys=>if xs.length+ys.length<=sizeLine then .ok (.lv (xs++ys)) M else .aa
  | _,_=>.aa)->wpAny (model X.prog X.w) X.A (binaryOp (Be op) v u) (EP X pins σ Q) X.xe s:=by
  intro op e h;subst e
  cases q1:dH M wx with
  | none=>rw[q1]at h;exact h.elim
  | some xs =>
   cases q2:dH M wy with
   | none=>rw[q1,q2]at h;exact h.elim
   | some ys =>
    rw[q1,q2]at h;dsimp only at h;split at h
    ·rename_i hz
     obtain⟨a,vs,e1,ra,ha⟩:=kx m r1 q1;obtain⟨b,ws,e2,rb,hb⟩:=kx m r2 q2;subst e1 e2;refine Ge pins s σ H _ _ v u Q I rx ry ⟨a,b,vs,ws,rfl,rfl,ha,hb,by rw[<- ra.len,<- rb.len];exact hz,λp hp=>h.list m (ra.app rb) hp⟩
    ·exact h.elim
 have rR:(¬(∃i j:Int,wx=.d (.int i)/\wy=.d (.int j))->False)->∃i j:Int,wx=.d (.int i)/\wy=.d (.int j):=λk=>Classical.byContradiction k;cases op
 case add =>
  by_cases hi:∃i j:Int,wx=.d (.int i)/\wy=.d (.int j)
  ·obtain⟨i,j,rfl,rfl⟩:=hi;rw[aP r1]at rx;rw[aP r2]at ry;exact FQ pins s σ H _ _ v u Q I rx ry ⟨_,_,rfl,rfl,bg.plain (x:=.int (i+j)) h m (cy _)⟩
  by_cases ht:∃xs ys,wx=.d (.tup xs)/\wy=.d (.tup ys)
  ·obtain⟨xs,ys,rfl,rfl⟩:=ht;have h:bg X.K ads H Q (if xs.length+ys.length<=sizeLine then .ok (.d (.tup (xs++ys))) M else .aa):=h;split at h
   ·rename_i hc
    have r1:RD X.K ads H (.tup xs) x:=r1;have r2:RD X.K ads H (.tup ys) y:=r2;unfold RD at r1 r2;obtain⟨a,vs,e1,ha,ra⟩:=r1;obtain⟨b,ws,e2,hb,rb⟩:=r2;subst e1 e2;by_cases Rh:vs=[]
    ·have ex:xs=[]:=List.eq_nil_of_length_eq_zero (by rw[ra.len,Rh];rfl);subst ex Rh;refine Bf pins s σ H _ _ v u Q I rx ry ⟨a,b,ws,rfl,rfl,eJ.of ha,eJ.of hb,bg.plain (x:=.tup ys) h m ?_⟩;unfold RD;exact⟨b,ws,rfl,hb,rb⟩
    refine AB pins s σ H _ _ v u Q I rx ry ⟨a,b,vs,ws,rfl,rfl,eJ.of ha,eJ.of hb,Rh,by rw[<- ra.len,<- rb.len];exact hc,λz=>?_,λ_ p hp=>h.tuple m (ra.app rb) hp⟩;have ey:ys=[]:=List.eq_nil_of_length_eq_zero (by rw[rb.len,z];rfl);subst ey;rw[z9]at h;refine h.plain m ?_;unfold RD;exact⟨a,vs,rfl,ha,ra⟩
   ·exact h.elim
  ·refine MX rfl ?_
   rw[show lP .add wx wy M=(match dH M wx,dH M wy with
    | some xs,some ys=>if xs.length+ys.length<=sizeLine then .ok (.lv (xs++ys)) M else .aa
    | _,_=>.aa) by rcases wx with⟨_|_|_|_|_|_|_⟩|_<;>rcases wy with⟨_|_|_|_|_|_|_⟩|_<;>first | rfl | exact absurd ⟨_,_,rfl,rfl⟩ hi | exact absurd ⟨_,_,rfl,rfl⟩ ht]at h
   exact h
 case sub =>
  obtain⟨i,j,rfl,rfl⟩:=rR λz=>by
   rcases wx with⟨_|_|_|_|_|_|_⟩|_<;>first | exact False.elim h | (rcases wy with⟨_|_|_|_|_|_|_⟩|_<;>first | exact False.elim h | exact z ⟨_,_,rfl,rfl⟩)
  rw[aP r1]at rx;rw[aP r2]at ry;exact FR pins s σ H _ _ v u Q I rx ry ⟨_,_,rfl,rfl,bg.plain (x:=.int (i-j)) h m (cy _)⟩
 case mul =>
  by_cases hi:∃i j:Int,wx=.d (.int i)/\wy=.d (.int j)
  ·obtain⟨i,j,rfl,rfl⟩:=hi;have h:bg X.K ads H Q (if (-(2 ^ 64)<i/\i<2 ^ 64)\/(-(2 ^ 64)<j/\j<2 ^ 64) then .ok (.d (.int (i*j))) M else .aa):=h;rw[aP r1]at rx;rw[aP r2]at ry;split at h
   ·rename_i hc
    exact FT pins s σ H _ _ v u Q I rx ry ⟨_,_,rfl,rfl,hc,h.plain m (cy _)⟩
   ·exact h.elim
  obtain⟨k,rfl⟩:∃k:Int,wy=.d (.int k):=Classical.byContradiction λz=>by
   rcases wx with⟨_|_|_|_|_|_|_⟩|_<;>rcases wy with⟨_|_|_|_|_|_|_⟩|_<;>first | exact False.elim h | exact z ⟨_,rfl⟩
  by_cases ht:∃xs,wx=.d (.tup xs)
  ·obtain⟨xs,rfl⟩:=ht;have h:bg X.K ads H Q (if -(2 ^ 63)<=k/\k<2 ^ 63/\xs.length*k.toNat<=sizeLine then .ok (.d (.tup (List.replicate k.toNat xs).flatten)) M else .aa):=h;split at h
   ·rename_i hc
    have r1:RD X.K ads H (.tup xs) x:=r1;unfold RD at r1;obtain⟨a,vs,e1,ha,ra⟩:=r1;subst e1;rw[aP r2]at ry;refine AQ pins s σ H _ _ v u Q I rx ry ⟨a,k,vs,rfl,rfl,ha,hc.1,hc.2.1,by rw[<- ra.len];exact hc.2.2,λz=>h.plain m ?_,λp hp=>h.tuple m (aF.rep ra k.toNat) hp⟩;unfold RD;exact⟨a,vs,rfl,ha,by have:=aF.rep ra k.toNat;rw[z]at this;exact this⟩
   ·exact h.elim
  ·rw[show lP .mul wx (.d (.int k)) M=(match dH M wx with
    | some xs=>if -(2 ^ 63)<=k/\k<2 ^ 63/\xs.length*k.toNat<=sizeLine then .ok (.lv (List.replicate k.toNat xs).flatten) M else .aa
    | none=>.aa) by rcases wx with⟨_|_|_|_|_|_|_⟩|_<;>first | rfl | exact absurd ⟨_,_,rfl,rfl⟩ hi | exact absurd ⟨_,rfl⟩ ht]at h
   cases q1:dH M wx with
   | none=>rw[q1]at h;exact h.elim
   | some xs =>
    rw[q1]at h;dsimp only at h;split at h
    ·rename_i hz
     obtain⟨a,vs,e1,ra,ha⟩:=kx m r1 q1;subst e1;rw[aP r2]at ry;refine Gf pins s σ H _ _ v u Q I rx ry ⟨a,k,vs,rfl,rfl,ha,hz.1,hz.2.1,by rw[<- ra.len];exact hz.2.2,λp hp=>h.list m (aF.rep ra k.toNat) hp⟩
    ·exact h.elim
 case fdiv =>
  obtain⟨i,j,rfl,rfl⟩:=rR λz=>by
   rcases wx with⟨_|_|_|_|_|_|_⟩|_<;>first | exact False.elim h | (rcases wy with⟨_|_|_|_|_|_|_⟩|_<;>first | exact False.elim h | exact z ⟨_,_,rfl,rfl⟩)
  rw[aP r1]at rx;rw[aP r2]at ry;have h:bg X.K ads H Q (if 0<j/\j<1073741824 then .ok (.d (.int (i / j))) M else .aa):=h;split at h
  ·rename_i hc
   exact Am pins s σ H _ _ v u Q I rx ry ⟨_,_,rfl,rfl,hc,h.plain m (cy _)⟩
  ·exact h.elim
 case mod =>
  obtain⟨i,j,rfl,rfl⟩:=rR λz=>by
   rcases wx with⟨_|_|_|_|_|_|_⟩|_<;>first | exact False.elim h | (rcases wy with⟨_|_|_|_|_|_|_⟩|_<;>first | exact False.elim h | exact z ⟨_,_,rfl,rfl⟩)
  rw[aP r1]at rx;rw[aP r2]at ry;have h:bg X.K ads H Q (if 0<j then .ok (.d (.int (i % j))) M else .aa):=h;split at h
  ·rename_i hc
   exact FU pins s σ H _ _ v u Q I rx ry ⟨_,_,rfl,rfl,hc,h.plain m (cy _)⟩
  ·exact h.elim
 case pow =>
  obtain⟨i,j,rfl,rfl⟩:=rR λz=>by
   rcases wx with⟨_|_|_|_|_|_|_⟩|_<;>first | exact False.elim h | (rcases wy with⟨_|_|_|_|_|_|_⟩|_<;>first | exact False.elim h | exact z ⟨_,_,rfl,rfl⟩)
  rw[aP r1]at rx;rw[aP r2]at ry;have h:bg X.K ads H Q (if 0<=j/\j<=1000000/\i.natAbs<2 ^ 64 then .ok (.d (.int (i ^ j.toNat))) M else .aa):=h;split at h
  ·rename_i hc
   exact FV pins s σ H _ _ v u Q I rx ry ⟨_,_,rfl,rfl,hc,h.plain m (cy _)⟩
  ·exact h.elim
end
end
section
variable [EX]
section
variable {X:Cx} {pins:List (Addr×Obj)} {σ:L2.St} {H:Hp} {s:Shared} {ads:List Addr} {M:ab}
theorem cV(I:Inv X pins σ H s)(n:Nat)(hA:∀d v u p,RD X.K ads H d v->RelV v u->fU M n d=some p->∃as,Reads s.heap u p as):∀(ds:List D)(vs:List V)(us:List Value)(ps:List PyData),aF X.K ads H ds vs->aE vs us->dh M n ds=some ps->∃as,ReadsAll s.heap us ps as
 | [],vs,us,ps,r,rv,e=>by
  unfold aF at r;subst r;cases rv;unfold dh at e;cases e;exact⟨[],.nil⟩
 | d::ds,vs,us,ps,r,rv,e=>by
  unfold aF at r;obtain⟨x,r',rfl,h1,h2⟩:=r
  cases rv with
  | cons rx rr =>
   unfold dh at e
   cases q1:fU M n d with
   | none=>rw[q1]at e;cases e
   | some p =>
    cases q2:dh M n ds with
    | none=>rw[q1,q2]at e;cases e
    | some qs =>
     rw[q1,q2]at e;cases e;obtain⟨as,k1⟩:=hA d x _ p h1 rx q1;obtain⟨bs,k2⟩:=cV I n hA ds r' _ qs h2 rr q2;exact⟨as++bs,.cons k1 k2⟩
theorem jJ(I:Inv X pins σ H s)(m:aJ X.K ads H M):∀(n:Nat)(d:D)(v:V)(u:Value)(p:PyData),RD X.K ads H d v->RelV v u->fU M n d=some p->∃as,Reads s.heap u p as:=by
 intro n
 induction n with
 | zero =>
  intro d v u p r rv e
  cases d with
  | fn _=>unfold fU at e;cases e
  | tg _=>unfold fU at e;cases e
  | br=>unfold RD at r;subst r;cases rv;unfold fU at e;cases e;exact⟨_,.none⟩
  | bl b=>unfold RD at r;subst r;cases rv;unfold fU at e;cases e;exact⟨_,.bool _⟩
  | int b=>unfold RD at r;subst r;obtain⟨t,rfl⟩:=rv;unfold fU at e;cases e;exact⟨_,.int _ _⟩
  | str b=>unfold RD at r;subst r;obtain⟨t,rfl⟩:=rv;unfold fU at e;cases e;exact⟨_,.str _ _⟩
  | tup _=>unfold fU at e;cases e
  | aX _=>unfold fU at e;cases e
  | ls _=>unfold fU at e;cases e
 | succ n ih =>
  intro d v u p r rv e
  cases d with
  | fn _=>unfold fU at e;cases e
  | tg _=>unfold fU at e;cases e
  | br=>unfold RD at r;subst r;cases rv;unfold fU at e;cases e;exact⟨_,.none⟩
  | bl b=>unfold RD at r;subst r;cases rv;unfold fU at e;cases e;exact⟨_,.bool _⟩
  | int b=>unfold RD at r;subst r;obtain⟨t,rfl⟩:=rv;unfold fU at e;cases e;exact⟨_,.int _ _⟩
  | str b=>unfold RD at r;subst r;obtain⟨t,rfl⟩:=rv;unfold fU at e;cases e;exact⟨_,.str _ _⟩
  | tup ds =>
   unfold RD at r;obtain⟨a,xs,rfl,hs,r⟩:=r;cases rv;unfold fU at e
   cases q:dh M n ds with
   | none=>rw[q]at e;cases e
   | some ps =>
    rw[q]at e;cases e;obtain⟨ax,rv,⟨o,h1,h2,k,h3⟩,_⟩:=I.tuple (eJ.of (K:=X.K) hs);obtain⟨as,ra⟩:=cV I n ih ds xs ax ps r rv q;exact⟨as,.tuple h1 h2 h3 (by simpa using ra)⟩
  | ls ds =>
   unfold RD at r;obtain⟨a,xs,rfl,hs,r⟩:=r;cases rv;unfold fU at e
   cases q:dh M n ds with
   | none=>rw[q]at e;cases e
   | some ps =>
    rw[q]at e;cases e;obtain⟨ax,rv,⟨o,kk,h1,h2,h3,h4⟩,_⟩:=I.list hs.sq;obtain⟨as,ra⟩:=cV I n ih ds xs ax ps r rv q;exact⟨a::as,.list h1 h2 h4 (by simpa using ra)⟩
  | aX k =>
   unfold RD at r;obtain⟨a,rfl,ea⟩:=r;cases rv;unfold fU at e
   have lst:∀ds,d5 X.K H a ds->∀es,aF X.K ads H es ds->(dh M n es).map PyData.list=some p->∃as,Reads s.heap (.ref a) p as:=by
    intro xs hs es r e
    cases q:dh M n es with
    | none=>rw[q]at e;cases e
    | some ps =>
     rw[q]at e;cases e;obtain⟨ax,rv,⟨o,kk,h1,h2,h3,h4⟩,_⟩:=I.list hs;obtain⟨as,ra⟩:=cV I n ih es xs ax ps r rv q;exact⟨a::as,.list h1 h2 h4 (by simpa using ra)⟩
   cases q:M[k]? with
   | none=>rw[q]at e;cases e
   | some o =>
    rw[q]at e;have ho:=m.obj k o a q ea
    cases o with
    | lst es=>obtain⟨xs,h,r⟩:=ho;exact lst xs (d5.of h) es r e
    | jh es=>obtain⟨o,xs,h,r⟩:=ho;exact lst xs (.inl (.inr ⟨o,h⟩)) es r e
    | dK _=>cases e
    | dT _=>cases e
    | dF _=>cases e
    | dG _=>cases e
    | xc _ _=>cases e
theorem ig(I:Inv X pins σ H s)(m:aJ X.K ads H M){w:W}{v:V}{u:Value}{p:PyData}(r:RW X.K ads H w v)(rv:RelV v u)(e:nM M w=some p):∃as,Reads s.heap u p as:=by
 cases w with
 | d x=>exact jJ I m 30 x v u p r rv e
 | lv ds =>
  obtain⟨a,xs,rfl,h,n,r⟩:=r;cases rv;have e:(dh M 30 ds).map PyData.list=some p:=e
  cases q:dh M 30 ds with
  | none=>rw[q]at e;cases e
  | some ps =>
   rw[q]at e;cases e;obtain⟨ax,rv,⟨o,kk,h1,h2,h3,h4⟩,_⟩:=I.list (d5.of (K:=X.K) h);obtain⟨as,ra⟩:=cV I 30 (jJ I m 30) ds xs ax ps r rv q;exact⟨a::as,.list h1 h2 h4 (by simpa using ra)⟩
end
section
variable {K:PySem.W.Frag} {ads:List Addr} {H:Hp}
theorem bN.find{κ:Type}[DecidableEq κ]{k:κ}:∀{ak:List (κ×D)}{ks:List (κ×V)}{d:D},bN K ads H ak ks->(ak.find? λp=>decide (p.1=k)).map (·.2)=some d->∃v,jy ks k=some v/\RD K ads H d v
 | [],_,_,_,e=>by cases e
 | p::ps,ks,d,r,e=>by
  unfold bN at r;obtain⟨x,r',rfl,h0,h1,h2⟩:=r;by_cases hk:p.1=k
  ·have e':p.2=d:=by simpa[lF,hk]using e
   subst e';exact⟨x.2,g9 (h0▸hk),h1⟩
  ·obtain⟨v,e1,rv⟩:=bN.find h2 (by simpa[lF,hk]using e);exact⟨v,(g_ (h0▸hk)).trans e1,rv⟩
theorem bN.len{κ:Type}:∀{ak:List (κ×D)}{ks:List (κ×V)},bN K ads H ak ks->ak.length=ks.length
 | [],_,r=>by unfold bN at r;subst r;rfl
 | p::ps,ks,r=>by unfold bN at r;obtain⟨x,r',rfl,h0,h1,h2⟩:=r;simp[bN.len h2]
end
noncomputable def GN:ux->CmpOp
 | .eq=>.Eq | .ne=>.NotEq | .lt=>.Lt | .le=>.LtE | .gt=>.Gt | .ge=>.GtE | .isN=>.Is | .notN=>.IsNot | .isin=>.In | .ji=>.NotIn | .MK=>.In
def D1(K:PySem.W.Frag)(ads:List Addr)(H:Hp)(Q:VK):bp Bool->Prop
 | .ok b M=>∀H' ao,ay ads ao H H'->aJ K ao H' M->Q (.bl b) H'
 | .err x M=>EX.post K ads H x M
 | .aa=>False
def Bg(K:PySem.W.Frag)(op:ux):R2:=λx y H Q=>∃ads M wx wy,aJ K ads H M/\RW K ads H wx x/\RW K ads H wy y/\((op=.isN\/op=.notN)->y=.br)/\D1 K ads H Q (bM op wx wy M)
theorem D1.now{K:PySem.W.Frag}{ads:List Addr}{H:Hp}{Q:VK}{b:Bool}{M:ab}(h:D1 K ads H Q (.ok b M))(m:aJ K ads H M):Q (.bl b) H:=h H ads (ay.refl _ _) m
section
variable {X:Cx}
open Classical in
noncomputable def oT(h:Heap)(p:PyData)(y:Value):Bool:=decide (∃q' Tl,Reads h y q' Tl/\PyData.eqv q' p=true)
open Classical in
theorem oU{h:Heap}{p q:PyData}{y:Value}{cs:List Addr}(ry:Reads h y q cs):oT h p y=PyData.eqv q p:=by
 unfold oT
 cases hb:PyData.eqv q p with
 | true=>exact gX ⟨q,cs,ry,hb⟩
 | false =>
  refine df ?_;rintro⟨q',Tl,Vk,MY⟩;obtain⟨e,_⟩:=PyProof.Rows.reads_det (λ_ _ e _=>e) ry Vk;rw[<- e,MY]at hb;cases hb
theorem yc{s:Shared}{A:Around}{x:Value}{p:PyData}{as:List Addr}(rx:Reads s.heap x p as)(hx:SeqAt.shaped p=true)(hu:A.units+65<cLine):∀{us:List Value}{qs:List PyData}{bs:List Addr},ReadsAll s.heap us qs bs->qs.all SeqAt.shaped=true->(∀y∈us,SeqAt.EqAt A.in1 s y x (oT s.heap p y))/\us.any (oT s.heap p)=uA p qs
 | _,_,_,.nil,_=>⟨(λy hy=>by cases hy),rfl⟩
 | _,_,_,.cons (v:=v) (d:=q) ry rr,hq=>by
  rw[List.all_cons,aA]at hq;have MY:=hq;obtain⟨k1,k2⟩:=yc rx hx hu rr MY.2;have e0:=SeqAt.eqAt_reads q p A.in1 s v x _ _ ry rx (SeqAt.canLay_of_shaped MY.1) (SeqAt.canLay_of_shaped hx) (SeqAt.room_of_shaped MY.1 (by show A.units+1+64<cLine;omega));rw[<- oU ry]at e0;refine⟨λy hy=>?_,?_⟩
  ·rcases bF.mp hy with z | z
   ·subst z;exact e0
   ·exact k1 y z
  ·rw[vp,k2,oU ry];rfl
theorem rS{s:Shared}{A:Around}{x:Value}{p:PyData}{as:List Addr}(rx:Reads s.heap x p as)(hx:SeqAt.shaped p=true)(hu:A.units+65<cLine){us:List Value}{qs:List PyData}{bs:List Addr}(r:ReadsAll s.heap us qs bs)(hq:qs.all SeqAt.shaped=true):∃e:Value->Bool,(∀y∈us,SeqAt.EqAt A.in1 s y x (e y))/\us.any e=uA p qs :=
 ⟨oT s.heap p,yc rx hx hu r hq⟩
theorem uE:fR X (compareOp .LtE) (λx y H Q=>∃i j,x=.str i/\y=.str j/\Q (.bl (!decide (j.cps.toList<i.cps.toList))) H):=by
 intro pins s σ H x y v u Q I rx ry h;obtain⟨i,j,rfl,rfl,q⟩:=h;obtain⟨t,rfl⟩:=rx;obtain⟨t',rfl⟩:=ry;exact PySem.P.le_str ⟨.bl _,H,I,rfl,q⟩
theorem i4(hu:X.A.units+100<cLine)(op:ux):fR X (compareOp (GN op)) (Bg X.K op):=by
 intro pins s σ H x y v u Q I rx ry h;obtain⟨ads,M,wx,wy,m,r1,r2,hn,h⟩:=h;unfold bM at h
 cases op with
 | eq =>
  dsimp only at h;have D2:D1 X.K ads H Q .aa->wpAny (model X.prog X.w) X.A (compareOp .Eq v u) (EP X pins σ Q) X.xe s:=λh=>h.elim
  cases q1:nM M wx with
  | none=>rw[q1]at h;exact D2 h
  | some p =>
   cases q2:nM M wy with
   | none=>rw[q1,q2]at h;exact D2 h
   | some q =>
    rw[q1,q2]at h;dsimp only at h;split at h
    ·rename_i hs
     obtain⟨as,ra⟩:=ig I m r1 rx q1;obtain⟨bs,rb⟩:=ig I m r2 ry q2;exact SeqAt.compareEq_shaped ra rb hs.1 hs.2 ∅ ⟨.bl _,H,I,rfl,h.now m⟩
    ·exact h.elim
 | ne =>
  dsimp only at h;have D3:D1 X.K ads H Q .aa->wpAny (model X.prog X.w) X.A (compareOp .NotEq v u) (EP X pins σ Q) X.xe s:=λh=>h.elim
  cases q1:nM M wx with
  | none=>rw[q1]at h;exact D3 h
  | some p =>
   cases q2:nM M wy with
   | none=>rw[q1,q2]at h;exact D3 h
   | some q =>
    rw[q1,q2]at h;dsimp only at h;split at h
    ·rename_i hs
     obtain⟨as,ra⟩:=ig I m r1 rx q1;obtain⟨bs,rb⟩:=ig I m r2 ry q2;exact SeqAt.compareNe_shaped ra rb hs.1 hs.2 ∅ ⟨.bl _,H,I,rfl,h.now m⟩
    ·exact h.elim
 | lt =>
  dsimp only at h;split at h
  ·rw[aP r1]at rx;rw[aP r2]at ry;exact LX pins s σ H _ _ v u Q I rx ry ⟨_,_,rfl,rfl,h.now m⟩
  ·rw[bz r1]at rx;rw[bz r2]at ry;exact ua pins s σ H _ _ v u Q I rx ry ⟨_,_,rfl,rfl,h.now m⟩
  ·exact h.elim
 | le =>
  dsimp only at h;split at h
  ·rw[aP r1]at rx;rw[aP r2]at ry;exact LY pins s σ H _ _ v u Q I rx ry ⟨_,_,rfl,rfl,h.now m⟩
  ·rw[bz r1]at rx;rw[bz r2]at ry;exact uE pins s σ H _ _ v u Q I rx ry ⟨_,_,rfl,rfl,h.now m⟩
  ·exact h.elim
 | gt =>
  dsimp only at h;split at h
  ·rw[aP r1]at rx;rw[aP r2]at ry;exact LZ pins s σ H _ _ v u Q I rx ry ⟨_,_,rfl,rfl,h.now m⟩
  ·exact h.elim
 | ge =>
  dsimp only at h;split at h
  ·rw[aP r1]at rx;rw[aP r2]at ry;exact L0 pins s σ H _ _ v u Q I rx ry ⟨_,_,rfl,rfl,h.now m⟩
  ·exact h.elim
 | MK =>
  dsimp only at h;split at h
  ·rw[bz r1]at rx;rw[bz r2]at ry;exact ub pins s σ H _ _ v u Q I rx ry ⟨_,_,rfl,rfl,h.now m⟩
  ·exact h.elim
 | isN =>
  have e:=hn (.inl rfl)
  have hx:∀b,bM .isN wx wy M=.ok b M->b=decide (x=.br):=by
   intro b e;unfold bM at e;dsimp only at e;split at e
   ·cases e;rw[kz r1];rfl
   ·rename_i Ri
    cases e;refine(df ?_).symm;intro z;subst z
    cases wx with
    | lv ds=>obtain⟨a,xs,e,_⟩:=r1;cases e
    | d z=>cases z with
     | fn b=>have r1:RD X.K ads H (.fn b) .br:=r1;unfold RD at r1;cases r1
     | tg b=>have r1:RD X.K ads H (.tg b) .br:=r1;unfold RD at r1;obtain⟨a,xs,e,_⟩:=r1;cases e
     | br=>exact Ri rfl
     | bl b=>have:=ie r1;cases this
     | int b=>have:=aP r1;cases this
     | str b=>have:=bz r1;cases this
     | tup b=>have r1:RD X.K ads H (.tup b) .br:=r1;unfold RD at r1;obtain⟨a,xs,e,_⟩:=r1;cases e
     | aX b=>have r1:RD X.K ads H (.aX b) .br:=r1;unfold RD at r1;obtain⟨a,e,_⟩:=r1;cases e
     | ls b=>have r1:RD X.K ads H (.ls b) .br:=r1;unfold RD at r1;obtain⟨a,xs,e,_⟩:=r1;cases e
  subst e;have:∃b,bM .isN wx wy M=.ok b M:=by unfold bM;dsimp only;split<;>exact⟨_,rfl⟩
  obtain⟨b,hb⟩:=this;have h:D1 X.K ads H Q (bM .isN wx wy M):=h;rw[hb]at h;refine FX pins s σ H _ _ v u Q I rx ry ⟨rfl,?_⟩;rw[<- hx b hb];exact h.now m
 | notN =>
  have e:=hn (.inr rfl)
  have hx:∀b,bM .notN wx wy M=.ok b M->b=!decide (x=.br):=by
   intro b e;unfold bM at e;dsimp only at e;split at e
   ·cases e;rw[kz r1];rfl
   ·rename_i Ri
    cases e
    have:decide (x=.br)=false:=by
     refine df ?_;intro z;subst z
     cases wx with
     | lv ds=>obtain⟨a,xs,e,_⟩:=r1;cases e
     | d z=>cases z with
      | fn b=>have r1:RD X.K ads H (.fn b) .br:=r1;unfold RD at r1;cases r1
      | tg b=>have r1:RD X.K ads H (.tg b) .br:=r1;unfold RD at r1;obtain⟨a,xs,e,_⟩:=r1;cases e
      | br=>exact Ri rfl
      | bl b=>have:=ie r1;cases this
      | int b=>have:=aP r1;cases this
      | str b=>have:=bz r1;cases this
      | tup b=>have r1:RD X.K ads H (.tup b) .br:=r1;unfold RD at r1;obtain⟨a,xs,e,_⟩:=r1;cases e
      | aX b=>have r1:RD X.K ads H (.aX b) .br:=r1;unfold RD at r1;obtain⟨a,e,_⟩:=r1;cases e
      | ls b=>have r1:RD X.K ads H (.ls b) .br:=r1;unfold RD at r1;obtain⟨a,xs,e,_⟩:=r1;cases e
    rw[this];rfl
  subst e;have:∃b,bM .notN wx wy M=.ok b M:=by unfold bM;dsimp only;split<;>exact⟨_,rfl⟩
  obtain⟨b,hb⟩:=this;have h:D1 X.K ads H Q (bM .notN wx wy M):=h;rw[hb]at h;refine An pins s σ H _ _ v u Q I rx ry ⟨rfl,?_⟩;rw[<- hx b hb];exact h.now m
 | isin=>exact h.elim
 | ji =>
  dsimp only at h
  cases q2:bL M wy with
  | none =>
   rw[q2]at h;cases hp:nM M wx<;>rw[hp]at h<;>exact h.elim
  | some Vl =>
   cases q1:nM M wx with
   | none=>rw[q1,q2]at h;exact h.elim
   | some p =>
    obtain⟨l,ds⟩:=Vl;rw[q1,q2]at h;dsimp only at h
    cases q3:dh M 30 ds with
    | none=>rw[q3]at h;exact h.elim
    | some qs =>
     rw[q3]at h;dsimp only at h;split at h
     ·rename_i hs
      obtain⟨as,ra⟩:=ig I m r1 rx q1;obtain⟨a,xs,ea,rd,sq⟩:=eG m r2 q2;subst ea;cases ry;rcases sq with⟨_,sq⟩|⟨_,sq⟩
      ·obtain⟨ax,rv,pl,_⟩:=I.list sq;obtain⟨bs,rb⟩:=cV I 30 (jJ I m 30) ds xs ax qs rd rv q3;obtain⟨e,he,GO⟩:=rS (A:=X.A) ra hs.1 ∅ rb hs.2;refine SeqAt.notIn_listAt e pl.isList (λy hy=>he y (by simpa using hy)) ⟨.bl _,H,I,rfl,?_⟩;have:ax.toArray.any e=uA p qs:=by rw[<- GO];simp
       rw[this];exact h.now m
      ·obtain⟨ax,rv,pl,_⟩:=I.tuple sq;obtain⟨bs,rb⟩:=cV I 30 (jJ I m 30) ds xs ax qs rd rv q3;obtain⟨e,he,GO⟩:=rS (A:=X.A) ra hs.1 ∅ rb hs.2;refine SeqAt.notIn_tupleAt e (show s.heap.IsTuple a ax.toArray from pl) (λy hy=>he y (by simpa using hy)) ⟨.bl _,H,I,rfl,?_⟩;have:ax.toArray.any e=uA p qs:=by rw[<- GO];simp
       rw[this];exact h.now m
     ·exact h.elim
end
end
section
variable [EX]
section
variable {K:PySem.W.Frag} {ads:List Addr} {H:Hp} {M:ab}
theorem MZ{w:W}{v:V}{k:Bool}(m:aJ K ads H M)(r:RW K ads H w v)(e:lQ M w=some k):w4 K v H k:=by
 have seq:∀w,RW K ads H w v->((bL M w).map λp=>!p.2.isEmpty)=some k->w4 K v H k:=by
  intro w r e
  cases q:bL M w with
  | none=>rw[q]at e;cases e
  | some p =>
   obtain⟨l,ds⟩:=p;rw[q]at e;have e:(!ds.isEmpty)=k:=cx e;obtain⟨a,xs,rfl,rd,sq⟩:=eG m r q;have hl:=rd.len
   have ex:k=!xs.isEmpty:=by
    rw[<- e];cases ds<;>cases xs<;>simp_all
   rcases sq with⟨_,sq⟩|⟨_,sq⟩
   ·exact .inl ⟨xs,sq,ex⟩
   ·exact .inr (.inl ⟨xs,sq,ex⟩)
 cases w with
 | lv ds=>exact seq _ r e
 | d x =>
  cases x with
  | fn n=>exact seq _ r e
  | tg n=>exact seq _ r e
  | br=>rw[kz r];exact(cx e).symm
  | bl b=>rw[ie r];exact(cx e).symm
  | int i=>rw[aP r];exact(cx e).symm
  | str s=>exact seq _ r e
  | tup ds=>exact seq _ r e
  | aX n=>exact seq _ r e
  | ls n=>exact seq _ r e
theorem aF.oA{ds:List D}{xs:List V}{i:Int}{d:D}(r:aF K ads H ds xs)(e:L2.oA ds i=some d):∃v,L2.oA xs i=some v/\RD K ads H d v:=by
 unfold L2.oA at e⊢;rw[<- r.len]
 cases q:zE ds.length i with
 | none=>rw[q]at e;cases e
 | some j=>rw[q]at e;exact r.get e
theorem aF.cut{ds:List D}{xs:List V}{lo hi:Option Int}(r:aF K ads H ds xs):aF K ads H (cutD ds lo hi) (oy xs lo hi):=by
 unfold cutD oy;rw[<- r.len];exact(r.drop _).take _
theorem bN.any{κ:Type}[DecidableEq κ]{k:κ}:∀{ak:List (κ×D)}{ks:List (κ×V)},bN K ads H ak ks->(ak.any λkv=>decide (kv.1=k))=(ks.any λkv=>decide (kv.1=k))
 | [],_,r=>by unfold bN at r;subst r;rfl
 | p::ps,ks,r=>by unfold bN at r;obtain⟨x,r',rfl,h0,h1,h2⟩:=r;simp[bN.any h2,h0]
theorem bN.map{κ:Type}[DecidableEq κ]{k:κ}{d:D}{v:V}(rd:RD K ads H d v):∀{ak:List (κ×D)}{ks:List (κ×V)},bN K ads H ak ks->bN K ads H (ak.map λkv=>if kv.1=k then (kv.1,d) else kv) (ks.map λkv=>if kv.1=k then (kv.1,v) else kv)
 | [],_,r=>by unfold bN at r;subst r;simp;unfold bN;rfl
 | p::ps,ks,r=>by
  unfold bN at r;obtain⟨x,r',rfl,h0,h1,h2⟩:=r;simp only[cA];unfold bN;refine⟨_,_,rfl,?_,?_,bN.map rd h2⟩
  ·rw[h0];split<;>first | rfl | exact h0
  ·rw[h0];split<;>first | exact rd | exact h1
theorem bN.app{κ:Type}:∀{ak es:List (κ×D)}{ks fs:List (κ×V)},bN K ads H ak ks->bN K ads H es fs->bN K ads H (ak++es) (ks++fs)
 | [],_,_,_,r,q=>by unfold bN at r;subst r;exact q
 | p::ps,es,ks,fs,r,q=>by
  unfold bN at r;obtain⟨x,r',rfl,h0,h1,h2⟩:=r;show bN K ads H (p::(ps++es)) (x::(r'++fs));unfold bN;exact⟨x,_,rfl,h0,h1,bN.app h2 q⟩
theorem bN.put{κ:Type}[DecidableEq κ]{k:κ}{d:D}{v:V}{ak:List (κ×D)}{ks:List (κ×V)}(r:bN K ads H ak ks)(rd:RD K ads H d v):bN K ads H (oO ak k d) (d8 ks k v):=by
 unfold oO d8;rw[r.any (k:=k)];split
 ·exact bN.map rd r
 ·refine r.app ?_;unfold bN;exact⟨_,[],rfl,rfl,rd,by unfold bN;rfl⟩
end
section
variable {X:Cx} {M':ab}
def L1(K:PySem.W.Frag):R2:=λx y H Q=>∃ads M wx wy,aJ K ads H M/\RW K ads H wx x/\RW K ads H wy y/\bg K ads H Q (dw wx wy M)
theorem GP(hu:X.A.units+1<cLine):Mi X (L1 X.K):=by
 intro value dW pins s σ H x y v u Q I rx ry h hs;obtain⟨ads,M,wx,wy,m,r1,r2,h⟩:=h;unfold dw at h;split at h
 ·rename_i i
  have ey:=aP r2;subst ey
  cases q:bL M wx with
  | some p =>
   obtain⟨l,ds⟩:=p;rw[q]at h;dsimp only at h
   cases q2:Ji ds i with
   | none=>rw[q2]at h;exact h.elim
   | some d =>
    rw[q2]at h;obtain⟨a,xs,rfl,rd,sq⟩:=eG m r1 q;obtain⟨z,e2,rz⟩:=rd.oA q2;rcases sq with⟨_,sq⟩|⟨_,sq⟩
    ·exact AD value dW pins s σ H _ _ v u Q I rx ry ⟨a,xs,i,z,rfl,rfl,sq,e2,h.plain m rz⟩ hs
    ·exact xy value dW pins s σ H _ _ v u Q I rx ry ⟨a,xs,i,z,rfl,rfl,sq,e2,h.plain m rz⟩ hs
  | none =>
   rw[q]at h;dsimp only at h;split at h
   ·split at h
    ·rename_i z hz
     have ex:=bz r1;subst ex
     cases q2:L2.oA z.cps.toList i with
     | none=>rw[q2]at h;exact h.elim
     | some c =>
      rw[q2]at h;exact F_ value dW pins s σ H _ _ v u Q I rx ry ⟨_,i,c,rfl,rfl,hz,q2,h.plain m (dY _)⟩ hs
    ·exact h.elim
   ·rename_i ds
    have r1:RD X.K ads H (.tg ds) x:=r1;unfold RD at r1;obtain⟨a,xs,rfl,kt,rd⟩:=r1
    cases q2:Ji ds i with
    | none=>rw[q2]at h;exact h.elim
    | some d =>
     rw[q2]at h;obtain⟨z,e2,rz⟩:=rd.oA q2;exact xy value dW pins s σ H _ _ v u Q I rx ry ⟨a,xs,i,z,rfl,rfl,.inr kt,e2,h.plain m rz⟩ hs
   ·rename_i n
    have r1:RD X.K ads H (.aX n) x:=r1;unfold RD at r1;obtain⟨a,rfl,ea⟩:=r1;split at h
    ·rename_i ak q
     obtain⟨ks,hk,rk⟩:=m.obj n _ a q ea;split at h
     ·rename_i d q2
      obtain⟨z,e2,rz⟩:=rk.find (k:=Sum.inl i) q2;cases rx;have g:mS H a (kV (Sum.inl i)) (some z):=by have:=mS.k (k:=Sum.inl i) hk;rw[e2]at this;exact this
      exact tail_any (fE I g) F.slot_dict_getitem.lookup (iP hu I g ry λw' s' I' ui=>⟨z,H,I',ui,h.plain m rz⟩) hs
     ·exact h.elim
    ·rename_i ak q
     obtain⟨o,ks,hk,rk⟩:=m.obj n _ a q ea;split at h
     ·rename_i d q2
      obtain⟨z,e2,rz⟩:=rk.find (k:=Sum.inl i) q2;cases rx;have g:mS H a (kV (Sum.inl i)) (some z):=.inl ⟨ks,Sum.inl i,.inr ⟨o,hk⟩,rfl,e2.symm⟩;exact tail_any (fE I g) F.slot_dict_getitem.lookup (iP hu I g ry λw' s' I' ui=>⟨z,H,I',ui,h.plain m rz⟩) hs
     ·exact h.elim
    ·exact h.elim
   ·exact h.elim
 ·rename_i k
  have ey:=bz r2;subst ey;split at h
  ·rename_i n
   have r1:RD X.K ads H (.aX n) x:=r1;unfold RD at r1;obtain⟨a,rfl,ea⟩:=r1;split at h
   ·rename_i ak q
    obtain⟨ks,hk,rk⟩:=m.obj n _ a q ea;split at h
    ·rename_i d q2
     obtain⟨z,e2,rz⟩:=rk.find (k:=Sum.inr k) q2;cases rx;have g:mS H a (kV (Sum.inr k)) (some z):=by have:=mS.k (k:=Sum.inr k) hk;rw[e2]at this;exact this
     exact tail_any (fE I g) F.slot_dict_getitem.lookup (iP hu I g ry λw' s' I' ui=>⟨z,H,I',ui,h.plain m rz⟩) hs
    ·exact h.elim
   ·exact h.elim
  ·exact h.elim
 ·exact h.elim
def Rj(K:PySem.W.Frag):V->Option Int->Option Int->Hp->VK->Prop:=λx lo hi H Q=>∃ads M wx,aJ K ads H M/\RW K ads H wx x/\bg K ads H Q (kh wx lo hi M)
theorem GQ:Mg X (Rj X.K):=by
 intro pins s σ H x v vl vu lo hi sl Q I rx hs pl pu h;obtain⟨ads,M,wx,m,r1,h⟩:=h;unfold kh at h;split at h
 ·rename_i ds q
  obtain⟨a,xs,rfl,rd,sq⟩:=eG m r1 q;rcases sq with⟨_,sq⟩|⟨e,_⟩
  ·exact AE pins s σ H _ v vl vu lo hi sl Q I rx hs pl pu ⟨a,xs,rfl,sq,λp hp=>h.list m rd.cut hp⟩
  ·cases e
 ·rename_i ds q
  obtain⟨a,xs,rfl,rd,sq⟩:=eG m r1 q;rcases sq with⟨e,_⟩|⟨_,sq⟩
  ·cases e
  ·by_cases hw:HT.cj ds.length 0 lo=0/\HT.cj ds.length ds.length hi=ds.length
   ·have e:cutD ds lo hi=ds:=by
     unfold cutD;rw[hw.1,hw.2,List.drop_zero,Nat.sub_zero,mD]
    rw[e]at h;refine AR pins s σ H _ v vl vu lo hi sl Q I rx hs pl pu ⟨a,xs,rfl,sq,by rw[<- rd.len];exact hw,h.plain m ?_⟩;rcases wx with d | l
    ·cases d with
     | tup es=>cases q;exact r1
     | aX n =>
      unfold bL at q
      try dsimp only at q
      split at q<;>cases q
     | _=>cases q
    ·cases q
   ·refine F9 pins s σ H _ v vl vu lo hi sl Q I rx hs pl pu ⟨a,xs,rfl,sq,by rw[<- rd.len];exact hw,λp hp=>h.tuple m rd.cut hp⟩
 ·exact h.elim
theorem bg.Rk{K:PySem.W.Frag}{ads:List Addr}{H:Hp}{Q:VK}{M:ab}{ak:List (bG×D)}{ks:List (bG×V)}{p:Addr}(q:bg K ads H Q (.ok (.d (.aX M.length)) (M++[.dK ak])))(m:aJ K ads H M)(hp:H p=none)(r:bN K ads H ak ks):Q (.ref p) (bw H p (.dK ks)):=by
 have pn:=m.fresh hp;have g0:ay ads ads H (bw H p (.dK ks)):=ay.e9 m hp;have m1:aJ K ads (bw H p (.dK ks)) M:=m.e9 hp;have m2:=m1.push (o:=.dK ak) pn ⟨_,bx,g0.xU _ _ r⟩;refine q (.ref p) _ (ads++[p]) ⟨⟨[p],rfl⟩,λb hb nb=>?_,g0.kept,g0.ft,g0.eX⟩ m2 ?_
 ·rcases gW.mp hb with z | z
  ·exact absurd z nb
  ·have:b=p:=by simpa using z
   subst this;exact hp
 ·show RD K (ads++[p]) (bw H p (.dK ks)) (.aX M.length) (.ref p);unfold RD;exact⟨p,rfl,by rw[nQ (by rw[m.len];exact a6 _)];simp[m.len]⟩
def zJ(K:PySem.W.Frag)(ads:List Addr)(H:Hp):List W->List V->Prop
 | [],vs=>vs=[]
 | w::ws,vs=>∃v r,vs=v::r/\RW K ads H w v/\zJ K ads H ws r
def D4(K:PySem.W.Frag)(b:Bi):List V->Hp->VK->Prop:=λvs H Q=>∃ads M ws,aJ K ads H M/\zJ K ads H ws vs/\bg K ads H Q (ic b ws M)
theorem zJ.one{K:PySem.W.Frag}{ads:List Addr}{H:Hp}{w:W}{vs:List V}(r:zJ K ads H [w] vs):∃v,vs=[v]/\RW K ads H w v:=by
 obtain⟨v,r,rfl,h,h2⟩:=r;have h2:r=[]:=h2;subst h2;exact⟨v,rfl,h⟩
theorem zJ.two{K:PySem.W.Frag}{ads:List Addr}{H:Hp}{w w2:W}{vs:List V}(r:zJ K ads H [w,w2] vs):∃v v2,vs=[v,v2]/\RW K ads H w v/\RW K ads H w2 v2:=by
 obtain⟨v,r,rfl,h,h2⟩:=r;obtain⟨v2,rfl,h3⟩:=zJ.one h2;exact⟨v,v2,rfl,h,h3⟩
theorem GR:dU X (.builtin "len") (D4 X.K .len):=by
 intro pins s σ H xs us Q I r h;obtain⟨ads,M,ws,m,rw,h⟩:=h;rcases ws with _|⟨w,_|⟨w2,ws⟩⟩
 ·exact h.elim
 ·obtain⟨v,rfl,rv⟩:=rw.one;unfold ic at h;dsimp only at h;split at h
  ·rename_i l ds q
   obtain⟨a,ys,rfl,rd,sq⟩:=eG m rv q;refine hU pins s σ H _ us Q I r ⟨a,ys,rfl,?_,by rw[<- rd.len];exact h.plain m (cy _)⟩;rcases sq with⟨_,sq⟩|⟨_,sq⟩
   ·exact .inl sq
   ·exact .inr sq
  ·split at h
   ·split at h
    ·rename_i hz
     have e1:=bz rv;subst e1;exact mX pins s σ H _ us Q I r ⟨_,rfl,hz,h.plain m (cy _)⟩
    ·exact h.elim
   ·rename_i ds q0
    have rv:RD X.K ads H (.tg ds) v:=rv;unfold RD at rv;obtain⟨a,ys,rfl,kt,rd⟩:=rv;exact hU pins s σ H _ us Q I r ⟨a,ys,rfl,.inr (.inr kt),by rw[<- rd.len];exact h.plain m (cy _)⟩
   ·exact h.elim
 ·exact h.elim
theorem qr {pins : List (Addr × Obj)} {σ : L2.St} {H : Hp} {s : Shared} {a : Addr} {xs : List V} {A : Around} (hh : A.handled = none) (I : Inv X pins σ H s) (sq : d5 X.K H a xs \/ eJ X.K H a xs) {Q : Value -> Shared -> Prop} {E : Value -> Shared -> Prop}
    (q:∀(ax:List Value)(I1:Addr)(fp wr:List Addr)(St:Nat->Heap->Prop)(s2:Shared),aE xs ax->Walks X.prog X.w A I1 fp wr ax.length (λi v=>ax[i]?=some v) St->St 0 s2.heap->(∀b∈fp,b<s2.heap.objs.size) ->
      (∀h' tk,(∀b o,b∉wr->s2.heap.get? b=some o->h'.get? b=some o)->Inv X pins σ H {s2 with heap:=h',toks:=tk})->(∀b∈wr,s.heap.objs.size<=b)->Q (.ref I1) s2):wpAny (model X.prog X.w) A (pyIter (.ref a)) Q E s:=by
  have kp:∀{o:Obj}{h':Heap}{tk:Nat},(∀b u,b∉[s.heap.objs.size]->(s.heap.push o).get? b=some u->h'.get? b=some u)->Inv X pins σ H {s with heap:=h',toks:=tk}:=λ{o h' tk} k =>
    I.kept λb u e=>k b u (λz=>by
      have hb:b=s.heap.objs.size:=by simpa using z
      exact absurd (bO e) (by rw[hb];exact jW _)) (bC _ e)
  rcases sq with sq | sq
  · obtain⟨ax,rv,pl,hz⟩:=I.list sq;obtain⟨o,ho,hc,n,hd⟩:=pl.isList;have GS:=bO ho;have W:=Walks.list (prog:=X.prog) (w:=X.w) hh s.heap.objs.size a (eM GS) ax.toArray;simp only[cE,List.getElem?_toArray]at W;refine tH pl.isList (q ax _ _ _ _ _ rv W ⟨⟨_,dC _ rfl,rfl,rfl⟩,⟨o,bC _ ho,hc,n,hd⟩⟩ (λb hb=>?_) (λh' tk k=>kp k) λb hb=>Nat.le_of_eq (by simpa using hb:b=s.heap.objs.size).symm);show b<(s.heap.push _).objs.size;rw[jV];have hb:b=s.heap.objs.size\/b=a:=by simpa using hb
    rcases hb with z | z
    · rw[z];exact tJ _
    · rw[z];exact zW GS
  · obtain⟨ax,rv,pl,hz⟩:=I.tuple sq;obtain⟨o,ho,hc,n,hd⟩:=id pl;have GS:=bO ho;have W:=Walks.tuple (prog:=X.prog) (w:=X.w) hh s.heap.objs.size a (eM GS) ax.toArray;simp only[cE,List.getElem?_toArray]at W;refine tF (show s.heap.IsTuple a ax.toArray from pl) (q ax _ _ _ _ _ rv W ⟨⟨_,dC _ rfl,rfl,rfl⟩,⟨o,bC _ ho,hc,n,hd⟩⟩ (λb hb=>?_) (λh' tk k=>kp k) λb hb=>Nat.le_of_eq (by simpa using hb:b=s.heap.objs.size).symm);show b<(s.heap.push _).objs.size;rw[jV];have hb:b=s.heap.objs.size\/b=a:=by simpa using hb
    rcases hb with z | z
    · rw[z];exact tJ _
    · rw[z];exact zW GS
theorem uF {pins : List (Addr × Obj)} {σ : L2.St} {H : Hp} {s : Shared} {a : Addr} {xs : List V} {A : Around} (hh : A.handled = none) (I : Inv X pins σ H s) (sq : d5 X.K H a xs \/ eJ X.K H a xs) {Q : Value -> Shared -> Prop} {E : Value -> Shared -> Prop}
    (q:∀(ax:List Value)(I1:Addr)(fp wr:List Addr)(St:Nat->Heap->Prop)(s2:Shared),aE xs ax->Walks X.prog X.w A I1 fp wr ax.length (λi v=>ax[i]?=some v) St->St 0 s2.heap->(∀b∈fp,b<s2.heap.objs.size) ->
      (∀h' tk,(∀b o,b∉wr->s2.heap.get? b=some o->h'.get? b=some o)->Inv X pins σ H {s2 with heap:=h',toks:=tk})->Q (.ref I1) s2):wpAny (model X.prog X.w) A (pyIter (.ref a)) Q E s :=
  qr hh I sq λax I1 fp wr St s2 a b c d e _=>q ax I1 fp wr St s2 a b c d e
theorem yd{K:PySem.W.Frag}{ads:List Addr}{H:Hp}:∀{ds:List D}{bs:List Bool}{ys:List V}{ax:List Value},oM ds=some bs->aF K ads H ds ys->aE ys ax->ax=bs.map Value.bool
 | [],bs,ys,ax,e,r,v=>by
  cases e;unfold aF at r;subst r;cases v;rfl
 | d::ds,bs,ys,ax,e,r,v=>by
  unfold aF at r;obtain⟨x,r',rfl,h1,h2⟩:=r;cases d<;>first | cases e | skip
  rename_i b
  unfold RD at h1;subst h1
  cases v with
  | cons hv hr =>
   cases hv;unfold oM at e
   cases q:oM ds with
   | none=>rw[q]at e;cases e
   | some cs =>
    rw[q]at e;cases e;rw[yd q h2 hr];rfl
theorem uG(bs:List Bool):(List.range bs.length).all (λi=>bs.getD i true)=bs.all id:=by
 rw[Bool.eq_iff_iff,jT,jT];constructor
 ·intro h b hb;obtain⟨i,hi,rfl⟩:=List.mem_iff_getElem.mp hb;have:=h i (List.mem_range.mpr hi);simpa[EF,hi]using this
 ·intro h i hi;have hi:=List.mem_range.mp hi;have:=h bs[i] (List.getElem_mem hi);simpa[EF,hi]using this
theorem uH{A:Around}(bs:List Bool):TruthOf X.prog X.w A (λi v=>(bs.map Value.bool)[i]?=some v) λi=>bs.getD i true:=by
 intro i v s Q E hP hQ;rw[dP]at hP
 cases q:bs[i]? with
 | none=>rw[q]at hP;cases hP
 | some b =>
  rw[q]at hP;cases hP;have e:bs.getD i true=b:=by rw[EF,q];rfl
  have hQ:Q (bs.getD i true) s:=hQ;rw[e]at hQ;unfold truthy;exact a7 hQ
theorem GU(hc:X.calm=true):dU X (.builtin "all") (D4 X.K .all1):=by
 intro pins s σ H xs us Q I r h;obtain⟨ads,M,ws,m,rw,h⟩:=h;rcases ws with _|⟨w,_|⟨w2,ws⟩⟩
 ·exact h.elim
 ·obtain⟨v,rfl,rv⟩:=rw.one;unfold ic at h;dsimp only at h;split at h
  ·rename_i l ds q
   split at h
   ·rename_i bs qb
    obtain⟨a,ys,rfl,rd,sq⟩:=eG m rv q;obtain⟨u,rfl,ru⟩:=vals1 r;cases ru;refine call_all_walk (uF (A:=X.A.in1) (I.ok.hd hc) I (sq.elim (λz=>.inl z.2) λz=>.inr z.2) λax I1 fp wr St s2 vs W st XA inv=>?_);have e:=yd qb rd vs;subst e;refine⟨I1,fp,wr,(bs.map Value.bool).length,_,St,λi=>bs.getD i true,rfl,W,st,uH bs,λh' tk hk=>⟨.bl (bs.all id),H,inv h' tk hk,?_,h.plain m (gv _)⟩⟩;rw[aV,uG];rfl
   ·exact h.elim
  ·exact h.elim
 ·exact h.elim
theorem Bh:dU X (.type "list") (D4 X.K .list1):=by
 intro pins s σ H xs us Q I r h;obtain⟨ads,M,ws,m,rw,h⟩:=h;rcases ws with _|⟨w,_|⟨w2,ws⟩⟩
 ·exact h.elim
 ·obtain⟨v,rfl,rv⟩:=rw.one;unfold ic at h;dsimp only at h;split at h
  ·rename_i l ds q
   obtain⟨a,ys,rfl,rd,sq⟩:=eG m rv q;refine mY pins s σ H _ us Q I r ⟨a,ys,rfl,?_,λp hp=>h.list m rd hp⟩;rcases sq with⟨_,sq⟩|⟨_,sq⟩
   ·exact .inl sq
   ·exact .inr sq
  ·exact h.elim
 ·exact h.elim
theorem ye:dU X (.type "tuple") (D4 X.K .tuple1):=by
 intro pins s σ H xs us Q I r h;obtain⟨ads,M,ws,m,rw,h⟩:=h;rcases ws with _|⟨w,_|⟨w2,ws⟩⟩
 ·exact h.elim
 ·obtain⟨v,rfl,rv⟩:=rw.one;unfold ic at h;dsimp only at h;split at h
  ·rename_i l ds q
   have hq:=q;obtain⟨a,ys,rfl,rd,sq⟩:=eG m rv q;rcases sq with⟨_,sq⟩|⟨el,sq⟩
   ·exact gr pins s σ H _ us Q I r ⟨a,ys,rfl,.inl ⟨sq,λp hp=>h.tuple m rd hp⟩⟩
   ·refine gr pins s σ H _ us Q I r ⟨a,ys,rfl,.inr ⟨sq,h.plain m ?_⟩⟩;subst el
    cases w with
    | lv es=>cases hq
    | d x =>
     cases x with
     | tup es =>
      have e:es=ds:=by simpa[bL]using hq
      subst e;exact rv
     | aX n =>
      simp only[bL]at hq;split at hq<;>cases hq
     | ls _=>cases hq
     | br=>cases hq
     | bl _=>cases hq
     | int _=>cases hq
     | str _=>cases hq
     | fn _=>cases hq
     | tg _=>cases hq
  ·exact h.elim
 ·exact h.elim
theorem GV:dU X (.type "int") (D4 X.K .jB):=by
 intro pins s σ H xs us Q I r h;obtain⟨ads,M,ws,m,rw,h⟩:=h;rcases ws with _|⟨w,_|⟨w2,ws⟩⟩
 ·exact h.elim
 ·obtain⟨v,rfl,rv⟩:=rw.one
  cases w with
  | lv ds=>exact h.elim
  | d x =>
   cases x with
   | int i =>
    have e:=aP rv;subst e;exact lY pins s σ H _ us Q I r (.inl ⟨i,rfl,bg.plain h m (cy _)⟩)
   | bl i =>
    have e:=ie rv;subst e;exact lY pins s σ H _ us Q I r (.inr ⟨i,rfl,bg.plain h m (cy _)⟩)
   | br=>exact h.elim
   | str y =>
    have e:=bz rv;subst e
    cases r with
    | cons r1 r2 =>
     cases r2;obtain⟨t,rfl⟩:=r1;unfold ic at h;dsimp only at h
     cases q:PySem.intText? y with
     | none=>rw[q]at h;exact h.elim
     | some n =>
      rw[q]at h;dsimp only at h;by_cases hl:y.length<=640
      ·rw[aG hl]at h;exact PySem.W.KIN.call_text q hl ⟨.int n,H,I.tok _,⟨_,rfl⟩,bg.plain h m (cy _)⟩
      ·rw[aR hl]at h;exact h.elim
   | tup _=>exact h.elim
   | aX _=>exact h.elim
   | ls _=>exact h.elim
   | fn _=>exact h.elim
   | tg _=>exact h.elim
 ·rcases w with⟨_|_|_|_|_|_⟩|_<;>exact h.elim
theorem GW:dU X (.type "str") (D4 X.K .str1):=by
 intro pins s σ H xs us Q I r h;obtain⟨ads,M,ws,m,rw,h⟩:=h;rcases ws with _|⟨w,_|⟨w2,ws⟩⟩
 ·exact h.elim
 ·obtain⟨v,rfl,rv⟩:=rw.one;rcases w with⟨_|_ | i | x | _|_|_⟩|_<;>first | exact h.elim | skip
  case str =>
   obtain⟨u,rfl,ru⟩:=vals1 r;rw[bz rv]at ru;obtain⟨t,rfl⟩:=ru;exact PySem.P.str_of_str ⟨.str _,H,I,⟨_,rfl⟩,h.plain m (dY _)⟩
  have h:bg X.K ads H Q (if i.natAbs.log2<1920 then .ok (.d (.str (Str.ofString (toString i)))) M else .aa):=h;split at h
  ·rename_i hi
   obtain⟨u,rfl,ru⟩:=vals1 r;rw[aP rv]at ru;obtain⟨t,rfl⟩:=ru;exact PySem.P.str_of_int hi ⟨.str _,H,I.tok _,⟨_,rfl⟩,h.plain m (dY _)⟩
  ·exact h.elim
 ·rcases w with⟨_|_|_|_|_|_|_⟩|_<;>exact h.elim
noncomputable def jD:Ty->String
 | .int => "int" | .bool => "bool" | .str => "str" | .tuple => "tuple" | .list => "list" | .dict => "dict" | .none => "NoneType"
theorem Bj(K:PySem.W.Frag):∀g t:Ty,PySem.W.kitOne K (.type (jD g)) (.type (jD t))=some (decide (g=t)||(decide (g=.bool)&&decide (t=.int))):=by
 intro g t;cases g<;>cases t<;>kernel_rfl
theorem yf{K:PySem.W.Frag}{ads:List Addr}{H:Hp}{M:ab}{w:W}{v:V}{g:Ty}(m:aJ K ads H M)(r:RW K ads H w v)(e:qk M w=some g):gF K H v (.type (jD g)):=by
 cases w with
 | lv ds=>cases e;obtain⟨a,xs,rfl,h,_⟩:=r;exact .lst h
 | d x =>
  cases x with
  | br=>cases e;rw[kz r];exact .br
  | bl b=>cases e;rw[ie r];exact .bl b
  | int b=>cases e;rw[aP r];exact .int b
  | str b=>cases e;rw[bz r];exact .str b
  | ls b=>cases e
  | tup b=>cases e;have r:RD K ads H (.tup b) v:=r;unfold RD at r;obtain⟨a,xs,rfl,h,_⟩:=r;exact .tup h
  | aX n =>
   have r:RD K ads H (.aX n) v:=r;unfold RD at r;obtain⟨a,rfl,ea⟩:=r;unfold qk at e;dsimp only at e
   cases q:M[n]? with
   | none=>rw[q]at e;cases e
   | some o =>
    rw[q]at e;have ho:=m.obj n o a q ea
    cases o with
    | lst es=>cases e;obtain⟨xs,h,_⟩:=ho;exact .lst h
    | jh es=>cases e;obtain⟨o,xs,h,_⟩:=ho;exact .eX h
    | dK es=>cases e;obtain⟨xs,h,_⟩:=ho;exact .dK h
    | dT es=>cases e;obtain⟨xs,h,_⟩:=ho;exact .dT h
    | dF es=>cases e
    | dG es=>cases e
    | xc _ _=>cases e
  | fn _=>cases e
  | tg _=>cases e
theorem GX(t:Ty):dU X (.builtin "isinstance") (λvs H Q=>∃v,vs=[v,.ty (jD t)]/\D4 X.K (.iT t) [v] H Q):=by
 intro pins s σ H xs us Q I r h;obtain⟨v,rfl,ads,M,ws,m,rw,h⟩:=h;obtain⟨u,u2,rfl,r1,r2⟩:=vals2 r;rcases ws with _|⟨w,_|⟨w2,ws⟩⟩
 ·exact h.elim
 ·obtain⟨v',e,rv⟩:=rw.one;cases e;unfold ic at h;dsimp only at h;split at h
  ·rename_i g q
   have e2:u2=Value.type (jD t):=r2;subst e2;exact ud I r1 (yf m rv q) (Bj X.K g t) λtk=>⟨.bl _,H,I.tok tk,rfl,h.plain m (gv _)⟩
  ·exact h.elim
 ·obtain⟨_,_,e,_,_,_,e2,_⟩:=rw;cases e;cases e2
end
end
section
variable [EX]
section
variable {X:Cx}
def Rl(K:PySem.W.Frag)(me:Me):V->List V->Hp->VK->Prop:=λx vs H Q=>∃ads M wx ds,aJ K ads H M/\RW K ads H wx x/\aF K ads H ds vs/\bg K ads H Q (u5 me wx ds M)
theorem aF.Rm{K:PySem.W.Frag}{ads:List Addr}{H:Hp}{d:D}{vs:List V}(r:aF K ads H [d] vs):∃v,vs=[v]/\RD K ads H d v:=by
 unfold aF at r;obtain⟨v,r',rfl,h,h2⟩:=r;unfold aF at h2;subst h2;exact⟨v,rfl,h⟩
theorem bg.wrote{K:PySem.W.Frag}{ads:List Addr}{H:Hp}{M:ab}{n:Nat}{a:Addr}{ds es:List D}{ys:List V}{x:D}{Q:VK}{v:V}(h:bg K ads H Q (.ok (.d x) (M.set n (.lst es))))(m:aJ K ads H M)(q:M[n]?=some (.lst ds))(ea:ads[n]?=some a)(ha:∃xs,H a=some (.lst xs))(ry:aF K ads H es ys)(rx:RD K ads (bw H a (.lst ys)) x v):Q v (bw H a (.lst ys)):=by
 obtain⟨xs,ha⟩:=ha;have nf:∀o x,H a≠some (.eX o x):=λo x z=>by rw[ha]at z;cases z
 have g:ay ads ads H (bw H a (.lst ys)):=by
  have Gs:a∈ads:=eL ea
  exact⟨⟨[],by simp⟩,λb h n=>absurd h n,λb x nb h=>by rw[ar (by intro z;subst z;exact nb Gs)];exact h,λb xs h=>by
   rw[ar (λz=>by subst z;rw[ha]at h;cases h)];exact h,λb o u h=>by rw[ar (λz=>by subst z;exact nf _ _ h)];exact h⟩
 obtain⟨g',m'⟩:=m.write (o:=.lst es) (ho:=.lst ys) q ea nf ⟨ys,bx,g.lL _ _ ry⟩;exact h v _ ads g m' rx
theorem mf:Jf X "list.append" (Rl X.K .append):=by
 intro pins s σ H x vs v us Q I rx rv h;obtain⟨ads,M,wx,ds,m,r1,r2,h⟩:=h;rcases wx with⟨_|_|_|_|_ | n⟩|_<;>first | exact h.elim | skip
 have r1:RD X.K ads H (.aX n) x:=r1;unfold RD at r1;obtain⟨a,rfl,ea⟩:=r1;unfold u5 at h;dsimp only at h
 cases q:M[n]? with
 | none=>rw[q]at h;exact h.elim
 | some o =>
  rw[q]at h
  cases o with
  | lst es =>
   rcases ds with _|⟨d,_|⟨d2,ds⟩⟩
   ·exact h.elim
   ·dsimp only at h;split at h
    ·rename_i hz
     obtain⟨y,rfl,ry⟩:=r2.Rm;obtain⟨xs,ha,rd⟩:=m.obj n _ a q ea;exact l9 pins s σ H _ _ v us Q I rx rv ⟨a,xs,y,rfl,rfl,ha,by rw[<- rd.len];exact hz,bg.wrote h m q ea ⟨xs,ha⟩ (rd.app (.one ry)) kA⟩
    ·exact h.elim
   ·exact h.elim
  | jh _=>exact h.elim
  | dK _=>exact h.elim
  | dT _=>exact h.elim
  | dF _=>exact h.elim
  | dG _=>exact h.elim
  | xc _ _=>exact h.elim
def ik(o i:W)(d:D)(M:ab):bp Unit :=
 match o with
 | .d (.aX n)=>match M[n]? with
  | some (.lst ds)=>match i with
   | .d (.int k)=>match zE ds.length k with
    | some j=>.ok () (M.set n (.lst (ds.set j d)))
    | none=>.aa
   | _=>.aa
  | some (.dK ak)=>match i with
   | .d (.str k)=>if ak.length<sizeLine then .ok () (M.set n (.dK (oO ak (Sum.inr k) d))) else .aa
   | .d (.int k)=>if ak.length<sizeLine then .ok () (M.set n (.dK (oO ak (Sum.inl k) d))) else .aa
   | _=>.aa
  | _=>.aa
 | _=>.aa
def Tn(K:PySem.W.Frag)(ads:List Addr)(H:Hp)(Q:Hp->Prop):bp Unit->Prop
 | .ok _ M=>∀H' ao,ay ads ao H H'->aJ K ao H' M->Q H'
 | .err x M=>EX.post K ads H x M
 | .aa=>False
def Rn(K:PySem.W.Frag):Ah:=λo i v H Q=>∃ads M wo wi d,aJ K ads H M/\RW K ads H wo o/\RW K ads H wi i/\RD K ads H d v/\Tn K ads H Q (ik wo wi d M)
theorem GY(hu:X.A.units+1<cLine):FF X (Rn X.K):=by
 intro pins s σ H o i v ov iv u Q I ro ri rv h;obtain⟨ads,M,wo,wi,d,m,r1,r2,r3,h⟩:=h;rcases wo with⟨_|_|_|_|_ | n⟩|_<;>first | exact h.elim | skip
 have r1:RD X.K ads H (.aX n) o:=r1;unfold RD at r1;obtain⟨a,rfl,ea⟩:=r1;unfold ik at h;dsimp only at h
 cases q:M[n]? with
 | none=>rw[q]at h;exact h.elim
 | some ob =>
  rw[q]at h;have Gs:a∈ads:=eL ea
  cases ob with
  | lst ds =>
   rcases wi with⟨_|_ | k | _|_|_⟩|_<;>first | exact h.elim | skip
   have ei:=aP r2;subst ei;dsimp only at h
   cases q2:zE ds.length k with
   | none=>rw[q2]at h;exact h.elim
   | some j =>
    rw[q2]at h;obtain⟨xs,ha,rd⟩:=m.obj n _ a q ea;refine xB pins s σ H _ _ v ov iv u Q I ro ri rv ⟨a,xs,k,j,rfl,rfl,ha,by rw[<- rd.len];exact q2,?_⟩;have nf:∀o x,H a≠some (.eX o x):=λo x z=>by rw[ha]at z;cases z
    have hg:ay ads ads H (bw H a (.lst (xs.set j v))):=⟨⟨[],by simp⟩,λb h n=>absurd h n,λb x nb h=>by rw[ar (by intro z;subst z;exact nb Gs)];exact h,λb xs h=>by
     rw[ar (λz=>by subst z;rw[ha]at h;cases h)];exact h,λb o u h=>by rw[ar (λz=>by subst z;exact nf _ _ h)];exact h⟩
    obtain⟨g',m'⟩:=m.write (o:=.lst (ds.set j d)) (ho:=.lst (xs.set j v)) q ea nf ⟨_,bx,hg.lL _ _ (rd.setAt j r3)⟩;exact h _ ads hg m'
  | dK ak =>
   obtain⟨ks,ha,rk⟩:=m.obj n _ a q ea;have nf:∀o x,H a≠some (.eX o x):=λo x z=>by rw[ha]at z;cases z
   have put:∀(k:bG),i=kV k->ak.length<sizeLine->Tn X.K ads H Q (.ok () (M.set n (.dK (oO ak k d))))->wpAny (model X.prog X.w) X.A (setItem ov iv u) (λ_ s'=>∃H',Inv X pins σ H' s'/\Q H') X.xe s:=by
    intro k ek hz h;subst ek;cases ro;refine uj hu I (uh.k (k:=k) ha (by rw[<- rk.len];exact hz)) ri rv λs' I'=>⟨_,I',?_⟩
    have hg:ay ads ads H (bw H a (.dK (d8 ks k v))):=⟨⟨[],by simp⟩,λb h n=>absurd h n,λb x nb h=>by rw[ar (by intro z;subst z;exact nb Gs)];exact h,λb xs h=>by
     rw[ar (λz=>by subst z;rw[ha]at h;cases h)];exact h,λb o u h=>by rw[ar (λz=>by subst z;exact nf _ _ h)];exact h⟩
    obtain⟨g',m'⟩:=m.write (o:=.dK (oO ak k d)) (ho:=.dK (d8 ks k v)) q ea nf ⟨_,bx,hg.xU _ _ (rk.put r3)⟩;exact h _ ads hg m'
   rcases wi with⟨_|_ | k | k | _|_⟩|_<;>first | exact h.elim | skip
   ·have ei:=aP r2;subst ei;dsimp only at h;split at h
    ·rename_i hz
     exact put (Sum.inl k) rfl hz h
    ·exact h.elim
   ·have ei:=bz r2;subst ei;dsimp only at h;split at h
    ·rename_i hz
     exact put (Sum.inr k) rfl hz h
    ·exact h.elim
  | jh _=>exact h.elim
  | dT _=>exact h.elim
  | dF _=>exact h.elim
  | dG _=>exact h.elim
  | xc _ _=>exact h.elim
end
end
section
variable [EX]
structure XI where
 cl:List (Str×Addr×List Str)
 kt:List (IX×Addr×Bool)
 ct:List (Str×Addr×List Str)
 hs:List Nat
 fa:List (Str×Addr)
 gt:List (Str×Str)
 tb:List (Str×lC):=[]
abbrev GZ:XI:=⟨[],[],[],[],[],[],[]⟩
structure CC where
 N:List Str
 names:List (Str×NameKind)
 fs:List (Str×Nat)
 gs:List (Str×Int)
 xs:XI
noncomputable def Bk(cc:CC)(x:Str):Bool:=match cc.names.lookup x with
 | some .local=>true
 | some .cell=>true
 | some .free=>true
 | _=>false
noncomputable def glob(cc:CC)(x:Str):Bool:=match cc.names.lookup x with
 | some .globalImplicit=>true
 | _=>false
noncomputable def aY(x:Str):Bool:=!(x==("__debug__" : Str)) && !(x==("__classdict__" : Str)) && !(x==("__name__" : Str))
theorem bA{p:Prop}[d:Decidable p]{f:p->Bool}(h:(if h:p then f h else false)=true):p:=by
 cases d with
 | isTrue q=>exact q
 | isFalse q=>rw[dif_neg q]at h;exact absurd h aD
noncomputable def eQ(e:Expr)(f:BoolOp->List Expr->Pos->Bool):Bool:=if h:e.ctorIdx=0 then Expr.BoolOp.elim (motive_1:=λ_=>Bool) e h f else false
theorem eg{P:Expr->Prop}{e:Expr}{f:BoolOp->List Expr->Pos->Bool}(h:eQ e f=true)(k:∀a b c,f a b c=true->P (.BoolOp a b c)):P e :=
 Expr.BoolOp.elim (motive_1:=λe=>eQ e f=true->P e) e (bA h) (λa b c h=>k a b c h) h
noncomputable def jK(e:Expr)(f:Expr->Operator->Expr->Pos->Bool):Bool:=if h:e.ctorIdx=2 then Expr.BinOp.elim (motive_1:=λ_=>Bool) e h f else false
theorem kE{P:Expr->Prop}{e:Expr}{f:Expr->Operator->Expr->Pos->Bool}(h:jK e f=true)(k:∀a b c d,f a b c d=true->P (.BinOp a b c d)):P e :=
 Expr.BinOp.elim (motive_1:=λe=>jK e f=true->P e) e (bA h) (λa b c d h=>k a b c d h) h
noncomputable def eR(e:Expr)(f:UnaryOp->Expr->Pos->Bool):Bool:=if h:e.ctorIdx=3 then Expr.UnaryOp.elim (motive_1:=λ_=>Bool) e h f else false
theorem dI{P:Expr->Prop}{e:Expr}{f:UnaryOp->Expr->Pos->Bool}(h:eR e f=true)(k:∀a b c,f a b c=true->P (.UnaryOp a b c)):P e :=
 Expr.UnaryOp.elim (motive_1:=λe=>eR e f=true->P e) e (bA h) (λa b c h=>k a b c h) h
noncomputable def nk(e:Expr)(f:Expr->Expr->Expr->Pos->Bool):Bool:=if h:e.ctorIdx=5 then Expr.IfExp.elim (motive_1:=λ_=>Bool) e h f else false
theorem qt{P:Expr->Prop}{e:Expr}{f:Expr->Expr->Expr->Pos->Bool}(h:nk e f=true)(k:∀a b c d,f a b c d=true->P (.IfExp a b c d)):P e :=
 Expr.IfExp.elim (motive_1:=λe=>nk e f=true->P e) e (bA h) (λa b c d h=>k a b c d h) h
noncomputable def qu(e:Expr)(f:List (Option Expr)->List Expr->Pos->Bool):Bool:=if h:e.ctorIdx=6 then Expr.Dict.elim (motive_1:=λ_=>Bool) e h f else false
theorem uI{P:Expr->Prop}{e:Expr}{f:List (Option Expr)->List Expr->Pos->Bool}(h:qu e f=true)(k:∀a b c,f a b c=true->P (.Dict a b c)):P e :=
 Expr.Dict.elim (motive_1:=λe=>qu e f=true->P e) e (bA h) (λa b c h=>k a b c h) h
noncomputable def e_(e:Expr)(f:Expr->List Comprehension->Scope->Pos->Bool):Bool:=if h:e.ctorIdx=8 then Expr.ListComp.elim (motive_1:=λ_=>Bool) e h f else false
theorem gw{P:Expr->Prop}{e:Expr}{f:Expr->List Comprehension->Scope->Pos->Bool}(h:e_ e f=true)(k:∀a b c d,f a b c d=true->P (.ListComp a b c d)):P e :=
 Expr.ListComp.elim (motive_1:=λe=>e_ e f=true->P e) e (bA h) (λa b c d h=>k a b c d h) h
noncomputable def eS(e:Expr)(f:Expr->List CmpOp->List Expr->Pos->Bool):Bool:=if h:e.ctorIdx=15 then Expr.Compare.elim (motive_1:=λ_=>Bool) e h f else false
theorem fb{P:Expr->Prop}{e:Expr}{f:Expr->List CmpOp->List Expr->Pos->Bool}(h:eS e f=true)(k:∀a b c d,f a b c d=true->P (.Compare a b c d)):P e :=
 Expr.Compare.elim (motive_1:=λe=>eS e f=true->P e) e (bA h) (λa b c d h=>k a b c d h) h
noncomputable def cW(e:Expr)(f:Expr->List Expr->List Keyword->Pos->Bool):Bool:=if h:e.ctorIdx=16 then Expr.Call.elim (motive_1:=λ_=>Bool) e h f else false
theorem bU{P:Expr->Prop}{e:Expr}{f:Expr->List Expr->List Keyword->Pos->Bool}(h:cW e f=true)(k:∀a b c d,f a b c d=true->P (.Call a b c d)):P e :=
 Expr.Call.elim (motive_1:=λe=>cW e f=true->P e) e (bA h) (λa b c d h=>k a b c d h) h
noncomputable def cX(e:Expr)(f:Const->Nat->Pos->Bool):Bool:=if h:e.ctorIdx=19 then Expr.Constant.elim (motive_1:=λ_=>Bool) e h f else false
theorem bV{P:Expr->Prop}{e:Expr}{f:Const->Nat->Pos->Bool}(h:cX e f=true)(k:∀a b c,f a b c=true->P (.Constant a b c)):P e :=
 Expr.Constant.elim (motive_1:=λe=>cX e f=true->P e) e (bA h) (λa b c h=>k a b c h) h
noncomputable def kH(e:Expr)(f:List Expr->Pos->Bool):Bool:=if h:e.ctorIdx=18 then Expr.JoinedStr.elim (motive_1:=λ_=>Bool) e h f else false
theorem oV{P:Expr->Prop}{e:Expr}{f:List Expr->Pos->Bool}(h:kH e f=true)(k:∀a b,f a b=true->P (.JoinedStr a b)):P e :=
 Expr.JoinedStr.elim (motive_1:=λe=>kH e f=true->P e) e (bA h) (λa b h=>k a b h) h
noncomputable def rT(e:Expr)(f:Expr->Int->Option Expr->Pos->Bool):Bool:=if h:e.ctorIdx=17 then Expr.FormattedValue.elim (motive_1:=λ_=>Bool) e h f else false
theorem oW{P:Expr->Prop}{e:Expr}{f:Expr->Int->Option Expr->Pos->Bool}(h:rT e f=true)(k:∀a b c d,f a b c d=true->P (.FormattedValue a b c d)):P e :=
 Expr.FormattedValue.elim (motive_1:=λe=>rT e f=true->P e) e (bA h) (λa b c d h=>k a b c d h) h
noncomputable def dk(e:Expr)(f:Expr->Str->Pos->Bool):Bool:=if h:e.ctorIdx=20 then Expr.Attribute.elim (motive_1:=λ_=>Bool) e h f else false
theorem dZ{P:Expr->Prop}{e:Expr}{f:Expr->Str->Pos->Bool}(h:dk e f=true)(k:∀a b c,f a b c=true->P (.Attribute a b c)):P e :=
 Expr.Attribute.elim (motive_1:=λe=>dk e f=true->P e) e (bA h) (λa b c h=>k a b c h) h
noncomputable def cH(e:Expr)(f:Expr->Expr->Pos->Bool):Bool:=if h:e.ctorIdx=21 then Expr.Subscript.elim (motive_1:=λ_=>Bool) e h f else false
theorem cO{P:Expr->Prop}{e:Expr}{f:Expr->Expr->Pos->Bool}(h:cH e f=true)(k:∀a b c,f a b c=true->P (.Subscript a b c)):P e :=
 Expr.Subscript.elim (motive_1:=λe=>cH e f=true->P e) e (bA h) (λa b c h=>k a b c h) h
noncomputable def bD(e:Expr)(f:Str->Pos->Bool):Bool:=if h:e.ctorIdx=23 then Expr.Name.elim (motive_1:=λ_=>Bool) e h f else false
theorem aQ{P:Expr->Prop}{e:Expr}{f:Str->Pos->Bool}(h:bD e f=true)(k:∀a b,f a b=true->P (.Name a b)):P e :=
 Expr.Name.elim (motive_1:=λe=>bD e f=true->P e) e (bA h) (λa b h=>k a b h) h
noncomputable def qv(e:Expr)(f:List Expr->Pos->Bool):Bool:=if h:e.ctorIdx=24 then Expr.List.elim (motive_1:=λ_=>Bool) e h f else false
theorem uJ{P:Expr->Prop}{e:Expr}{f:List Expr->Pos->Bool}(h:qv e f=true)(k:∀a b,f a b=true->P (.List a b)):P e :=
 Expr.List.elim (motive_1:=λe=>qv e f=true->P e) e (bA h) (λa b h=>k a b h) h
noncomputable def il(e:Expr)(f:List Expr->Nat->Pos->Bool):Bool:=if h:e.ctorIdx=25 then Expr.Tuple.elim (motive_1:=λ_=>Bool) e h f else false
theorem fc{P:Expr->Prop}{e:Expr}{f:List Expr->Nat->Pos->Bool}(h:il e f=true)(k:∀a b c,f a b c=true->P (.Tuple a b c)):P e :=
 Expr.Tuple.elim (motive_1:=λe=>il e f=true->P e) e (bA h) (λa b c h=>k a b c h) h
noncomputable def nq(e:Expr)(f:Option Expr->Option Expr->Option Expr->Pos->Bool):Bool:=if h:e.ctorIdx=26 then Expr.Slice.elim (motive_1:=λ_=>Bool) e h f else false
theorem qw{P:Expr->Prop}{e:Expr}{f:Option Expr->Option Expr->Option Expr->Pos->Bool}(h:nq e f=true)(k:∀a b c d,f a b c d=true->P (.Slice a b c d)):P e :=
 Expr.Slice.elim (motive_1:=λe=>nq e f=true->P e) e (bA h) (λa b c d h=>k a b c d h) h
noncomputable def fG(e:Stmt)(f:Option Expr->Pos->Bool):Bool:=if h:e.ctorIdx=3 then Stmt.Return.elim (motive_2:=λ_=>Bool) e h f else false
theorem jn{P:Stmt->Prop}{e:Stmt}{f:Option Expr->Pos->Bool}(h:fG e f=true)(k:∀a b,f a b=true->P (.Return a b)):P e :=
 Stmt.Return.elim (motive_2:=λe=>fG e f=true->P e) e (bA h) (λa b h=>k a b h) h
noncomputable def fH(e:Stmt)(f:List Expr->Expr->Pos->Bool):Bool:=if h:e.ctorIdx=5 then Stmt.Assign.elim (motive_2:=λ_=>Bool) e h f else false
theorem fJ{P:Stmt->Prop}{e:Stmt}{f:List Expr->Expr->Pos->Bool}(h:fH e f=true)(k:∀a b c,f a b c=true->P (.Assign a b c)):P e :=
 Stmt.Assign.elim (motive_2:=λe=>fH e f=true->P e) e (bA h) (λa b c h=>k a b c h) h
noncomputable def yg(e:Stmt)(f:Expr->Expr->List Stmt->List Stmt->Pos->Bool):Bool:=if h:e.ctorIdx=9 then Stmt.For.elim (motive_2:=λ_=>Bool) e h f else false
theorem yh{P:Stmt->Prop}{e:Stmt}{f:Expr->Expr->List Stmt->List Stmt->Pos->Bool}(h:yg e f=true)(k:∀a b c d e,f a b c d e=true->P (.For a b c d e)):P e :=
 Stmt.For.elim (motive_2:=λe=>yg e f=true->P e) e (bA h) (λa b c d e h=>k a b c d e h) h
noncomputable def G0(e:Stmt)(f:Expr->List Stmt->List Stmt->Pos->Bool):Bool:=if h:e.ctorIdx=12 then Stmt.If.elim (motive_2:=λ_=>Bool) e h f else false
theorem Bl{P:Stmt->Prop}{e:Stmt}{f:Expr->List Stmt->List Stmt->Pos->Bool}(h:G0 e f=true)(k:∀a b c d,f a b c d=true->P (.If a b c d)):P e :=
 Stmt.If.elim (motive_2:=λe=>G0 e f=true->P e) e (bA h) (λa b c d h=>k a b c d h) h
noncomputable def kI(e:Stmt)(f:Expr->Pos->Bool):Bool:=if h:e.ctorIdx=24 then Stmt.Expr.elim (motive_2:=λ_=>Bool) e h f else false
theorem mh{P:Stmt->Prop}{e:Stmt}{f:Expr->Pos->Bool}(h:kI e f=true)(k:∀a b,f a b=true->P (.Expr a b)):P e :=
 Stmt.Expr.elim (motive_2:=λe=>kI e f=true->P e) e (bA h) (λa b h=>k a b h) h
noncomputable def Bm:Const->Bool
 | .none=>true
 | _=>false
def isNone(e:Expr):Bool:=cX e λc _ _=>Bm c
noncomputable def rV:BoolOp->Bool
 | .And=>true
 | .Or=>false
noncomputable def G1:UnaryOp->Bool
 | .USub=>true
 | _=>false
noncomputable def D5:UnaryOp->Bool
 | .Not=>true
 | _=>false
noncomputable def fV(e:Expr):Bool:=!Nat.beq e.ctorIdx 26
noncomputable def fW(e:Expr):Bool:=[23,16,21,24,25,19,2].contains e.ctorIdx
def d0(e:Expr):Bool:=!(cW e λf as ks _=>Nat.beq f.ctorIdx 23&&as.isEmpty&&ks.isEmpty)
noncomputable def az(e:Expr):Bool:=!Nat.beq e.ctorIdx 22
noncomputable def yj:Bi->Str
 | .len => "len" | .max2 => "max" | .min2 => "min" | .jB => "int" | .list1 => "list" | .tuple1 => "tuple" | .rJ => "repr" | .iT _ => "isinstance" | .all1 => "all" | .AU => "any" | .rK => "dict" | .min1 => "min" | .AV => "max" | .rL => "sorted" | .str1 => "str"
noncomputable def ym:Me->Str
 | .append => "append" | .insert => "insert" | .reverse => "reverse" | .extend => "extend" | .remove => "remove" | .clear => "clear" | .pop => "pop"
noncomputable def bI:List Str:=["len","max","min","int","list","tuple","repr","isinstance","all","any","bool","str","dict","range","enumerate","zip","sorted","set","reversed"]
noncomputable def M7:Me->Bool
 | .append=>true | .insert=>false | .reverse=>false | .extend=>false | .remove=>false | .clear=>false | .pop=>false
noncomputable def M8:Bi->Bool
 | .AU=>false
 | .min1=>false
 | .AV=>false
 | .min2=>false
 | .max2=>false
 | .rK=>false
 | .rJ=>false
 | .rL=>false
 | .iT _=>false
 | _=>true
noncomputable def isStr(k:Str):Const->Bool
 | .str s=>k==s
 | _=>false
def ip:List Str->List (Option Expr)->Bool
 | [],[]=>true
 | k::ks,some e::es=>(cX e λc _ _=>isStr k c)&&ip ks es
 | _,_=>false
noncomputable def dy(sc:Scope):List Str:=(sc.names.filter λy=>y.2 == .local||y.2 == .free||y.2 == .cell).map (·.1)
def kJ(cc:CC)(sc:Scope):List (Option Nat):=(dy sc).map λx=>if sc.names.lookup x==some .free then cc.N.findIdx? (· == x) else none
def mi(cc:CC)(sc:Scope):CC:=⟨dy sc,sc.names,cc.fs,cc.gs,⟨[],[],[],[],cc.xs.fa,cc.xs.gt,cc.xs.tb⟩⟩
def oX(cc:CC)(sc:Scope):Bool:=sc.kind == .function&&sc.names.all (λy=>y.2 != .cell||sc.names.lookup y.1==some .cell)&&sc.names.all (λy=>y.2 != .local||sc.names.lookup y.1==some .local)&&decide (dy sc).Nodup &&
 sc.names.all (λy=>y.2 != .free||(sc.names.lookup y.1==some .free&&(cc.names.lookup y.1==some .cell||cc.names.lookup y.1==some .free)))
def iq(cc:CC):List Nat->List Expr->Bool
 | [],[]=>true
 | i::tg,e::es=>(bD e λx _=>cc.N[i]? == some x&&(cc.names.lookup x==some .local||cc.names.lookup x==some .cell))&&iq cc tg es
 | _,_=>false
def gx(cc:CC)(tg:List Nat)(e:Expr):Bool:=match tg with
 | []=>false
 | [i]=>iq cc [i] [e]
 | i::j::r=>il e λes _ _=>iq cc (i::j::r) es&&decide ((i::j::r).length<20)
noncomputable def jL(e:Expr):Bool:=Nat.beq e.ctorIdx 25
noncomputable def dz(e:Expr):Bool:=!Nat.beq e.ctorIdx 7
noncomputable def Ro:D->Const->Bool
 | .int i,.int j=>i==j
 | .bl i,.bool j=>i==j
 | .str i,.str j=>i==j
 | .br,.none=>true
 | _,_=>false
noncomputable def G2:D->Const->Bool
 | .int i,.int j=>i == -j
 | _,_=>false
def gM(d:D)(e:Expr):Bool:=(cX e λc _ _=>Ro d c)||eR e λop x _=>G1 op&&cX x λc _ _=>G2 d c
noncomputable def yn:Bi->Option Ty
 | .iT t=>some t
 | _=>none
theorem qz{b:Bi}{t:Ty}(h:yn b=some t):b=.iT t:=by
 cases b<;>first | (cases h;rfl) | cases h
noncomputable def Rp(cc:CC)(n:Nat)(p:Addr×Nat):Bool:=match cc.fs[p.2]? with
 | some (y,k)=>k==n&&cc.xs.fa.contains (y,p.1)
 | none=>false
mutual
noncomputable def bb(cc:CC):C->Expr->Bool
 | .jC i,e=>bD e λx _=>cc.N[i]? == some x&&Bk cc x&&aY x
 | .a_ d,e=>gM d e
 | .bin op a b,e=>jK e λl o r _=>o==Be op&&bb cc a l&&bb cc b r
 | .cmp op a b,e=>eS e λl os rs _=>match os,rs with
  | [o],[r]=>o==GN op && !behindInMarks o r&&(if op=.isN\/op=.notN then isNone r else true)&&bb cc a l&&bb cc b r
  | _,_=>false
 | .chain o1 o2 a b c,e=>eS e λl os rs _=>match os,rs with
  | [p,q],[m,r]=>p==GN o1&&q==GN o2 && !lastMarks [p,q] [m,r] && !(decide (o1=.isN)||decide (o1=.notN)||decide (o2=.isN)||decide (o2=.notN))&&bb cc a l&&bb cc b m&&bb cc c r
  | _,_=>false
 | .dE cs,e=>eQ e λop es _=>rV op&&bE cc cs es && !es.isEmpty
 | .eF cs,e=>eQ e λop es _=>!rV op&&bE cc cs es && !es.isEmpty
 | .neg a,e=>eR e λop x _=>D5 op&&bb cc a x
 | .ite t a b,e=>nk e λc x y _=>i6 cc t c&&bb cc a x&&bb cc b y
 | .tup cs,e=>il e λes _ _=>bE cc cs es
 | .lst cs,e=>qv e λes _=>bE cc cs es
 | .sub a b,e=>cH e λe i _=>fV i&&bb cc a e&&bb cc b i
 | .rM a lo hi,e=>cH e λe i _=>nq i λl h st _=>st.isNone&&bb cc a e&&G3 cc lo l&&G3 cc hi h
 | .call f cs,e=>cW e λfe args dr _=>bD fe λx _=>match args,dr with
  | e::es,[]=>cc.fs[f]? == some (x,cs.length)&&glob cc x&&aY x&&bE cc cs (e::es)
  | _,_=>false
 | .xf a f,e=>false
 | .AX a k tb,e=>false
 | .jj f cs,e=>false
 | .bi b cs,e=>cW e λfe args dr _=>bD fe λx _=>dr.isEmpty&&x==yj b&&glob cc x&&match yn b,args with
  | some t,[e,f]=>(bD f λy _=>y==Str.ofString (jD t)&&glob cc y&&decide (t≠.none))&&bE cc cs [e]
  | none,e::es=>M8 b&&bE cc cs (e::es)
  | _,_=>false
 | .me m o cs,e=>cW e λfe es dr cp=>dk fe λe n ap=>dr.isEmpty&&n==ym m&&M7 m&&ap.endLine==cp.line&&d0 e&&bb cc o e&&bE cc cs es&&decide (es.length<20)
 | .uZ ks cs,e=>qu e λkeys vs _=>(ip ks keys&&decide ks.Nodup && !keys.isEmpty&&decide (keys.length<=15)&&bE cc cs vs&&decide (ks.length=cs.length))||(ks.isEmpty&&cs.isEmpty&&keys.isEmpty&&vs.isEmpty)
 | .gZ tp cs,e=>false
 | .uy x v,e=>bD e λy _=>y==x&&glob cc x&&aY x&&cc.gs.lookup x==some v
 | .lM ng a,e=>false
 | .qj x v,e=>bD e λy _=>y==x&&glob cc x&&aY x&&cc.xs.gt.contains (x,v)
 | .lN pt a b,e=>cW e λfe args dr cp=>dk fe λe n ap=>match args,dr with
  | [x],[]=>n==(if pt=true then ("partition" : Str) else "split")&&ap.endLine==cp.line&&d0 e&&az x&&bb cc a e&&bb cc b x
  | _,_=>false
 | .uz lit a b,e=>kH e λvs _=>match vs with
  | [v1,v2,v3]=>rT v1 λe1 c1 s1 _=>rT v3 λe3 c3 s3 _=>c1 == -1&&s1.isNone&&c3 == -1&&s3.isNone&&gM (.str lit) v2&&bb cc a e1&&bb cc b e3
  | _=>false
 | .cat a b,e=>jK e λl o r _=>o == .Add&&bb cc a l&&bb cc b r
 | .ib x tt b,e=>cH e λe i _=>fV i&&(bD e λy _=>y==x&&glob cc x&&aY x)&&cc.xs.tb.contains (x,tt)&&bb cc b i
 | .lO x tt a,e=>eS e λl os rs _=>match os,rs with
  | [o],[r]=>o==CmpOp.NotIn && !behindInMarks o r&&(bD r λy _=>y==x&&glob cc x&&aY x)&&cc.xs.tb.contains (x,tt)&&bb cc a l
  | _,_=>false
 | .u4 a,e=>cW e λfe args dr _=>bD fe λx _=>match args,dr with
  | [u,v],[]=>x == "isinstance" && glob cc x&&az u&&bb cc a u&&il v λes _ _=>match es with
   | [p,q]=>(bD p λy _=>y == "tuple" && glob cc y)&&bD q λy _=>y == "list" && glob cc y
   | _=>false
  | _,_=>false
 | .qi cC a,e=>cW e λfe args dr cp=>dk fe λo n ap=>match args,dr with
  | [x],[]=>n == "join" && (ap.endLine==cp.line)&&d0 o&&gM (.str cC) o&&az x&&bb cc a x
  | _,_=>false
 | .oK y a,e=>bD e λx _=>x==y&&glob cc x&&aY x&&cc.xs.fa.contains (y,a)
 | .cM i tb cs,e=>cW e λfe args dr _=>bD fe λx _=>match args,dr with
  | e::es,[]=>cc.N[i]? == some x&&Bk cc x&&aY x&&bE cc cs (e::es)&&tb.all (Rp cc cs.length)
  | _,_=>false
 | .comp k cF tg cond elt bY,e=>e_ e λel gens sc _=>match gens with
  | [⟨t,aC,ifs,as⟩]=>as==0&&oX cc sc&&decide (bY=kJ cc sc)&&nr cc k cF t aC&&gx (mi cc sc) tg t&&Bn (mi cc sc) cond ifs&&bb (mi cc sc) elt el
  | _=>false
noncomputable def Bn(cc:CC):Option dv->List Expr->Bool
 | none,[]=>true
 | some t,[e]=>i6 cc t e
 | _,_=>false
noncomputable def nr(cc:CC):SK->List C->Expr->Expr->Bool
 | .seq,[c],_,e=>dz e&&bb cc c e
 | .rng1,[c],_,e=>cW e λfe args dr _=>bD fe λx _=>match args,dr with
  | [a],[]=>x == "range" && glob cc x&&az a&&bb cc c a
  | _,_=>false
 | .rng2,[c,d],_,e=>cW e λfe args dr _=>bD fe λx _=>match args,dr with
  | [a,b],[]=>x == "range" && glob cc x&&az a&&az b&&bb cc c a&&bb cc d b
  | _,_=>false
 | .zip,[c,d],t,e=>cW e λfe args dr _=>bD fe λx _=>match args,dr with
  | [a,b],[]=>x == "zip" && glob cc x&&az a&&az b&&bb cc c a&&bb cc d b
  | _,_=>false
 | _,_,_,_=>false
noncomputable def i6(cc:CC):dv->Expr->Bool
 | .dE ts,e=>eQ e λop es _=>rV op&&kK cc ts es && !es.isEmpty
 | .eF ts,e=>eQ e λop es _=>!rV op&&kK cc ts es && !es.isEmpty
 | .neg a,e=>eR e λop x _=>D5 op&&i6 cc a x
 | .val (.cmp op a b),e=>bb cc (.cmp op a b) e
 | .val (.chain o1 o2 a b c),e=>bb cc (.chain o1 o2 a b c) e
 | .val (.lM ng a),e=>bb cc (.lM ng a) e
 | .val (.lO x tt a),e=>bb cc (.lO x tt a) e
 | .val c,e=>fW e&&bb cc c e
noncomputable def kK(cc:CC):List dv->List Expr->Bool
 | [],[]=>true
 | c::cs,e::es=>i6 cc c e&&kK cc cs es
 | _,_=>false
noncomputable def bE(cc:CC):List C->List Expr->Bool
 | [],[]=>true
 | c::cs,e::es=>az e&&bb cc c e&&bE cc cs es
 | _,_=>false
noncomputable def G3(cc:CC):Option C->Option Expr->Bool
 | none,none=>true
 | some c,some e=>bb cc c e
 | _,_=>false
end
end
noncomputable def G4(X:Cx)(x:Str):NameKind->Prop
 | .local=>X.env.kindOf x=some .local
 | .cell=>X.env.kindOf x=some .cell
 | .free=>X.env.kindOf x=some .cell\/X.env.kindOf x=some .free
 | .globalImplicit=>X.env.kindOf x=some .globalImplicit
 | _=>True
def u6(K:PySem.W.Frag)(n:Nat)(F:List D->ab->bp W):Sp:=λvs H Q E=>∃ads M ds,aJ K ads H M/\aF K ads H ds vs/\ds.length=n/\@bg (AS E) K ads H Q (F ds M)
noncomputable def D6(K:PySem.W.Frag)(mg:Str->Option Value)(k:IX)(C:Addr)(r:Bool):Prop:=match k with
 | .one x=>∃c,mg x=some (.ref c)/\PySem.W.kitOne K (.ref C) (.ref c)=some r
 | .ve=>mg "ValueError" = none/\PySem.W.kitOne K (.ref C) (.type "ValueError")=some r
 | .many xs=>∃cs:List Addr,xs.map mg=cs.map (λc=>some (.ref c))/\PySem.W.kitAny K (.ref C) (cs.map Value.ref)=some r
def D7(K:PySem.W.Frag)(mg:Str->Option Value)(cb:Str)(C:Addr)(fs:List Str):Prop:=∃B D fI,mg cb=some (.ref B)/\PySem.W.kitCls K (.ref C) (.ref B)=some true/\PySem.W.kitCls K (.ref B) (.type "BaseException")=some true/\O8 K C D fI fs
def rW(P:Program)(w:World)(K:PySem.W.Frag)(mg:Str->Option Value)(x:Str)(tb:lC):Prop:=∃a vs,mg x=some (.ref a)/\(a==sysModules)=false/\(∀h:Heap,K.In h->h.DictOf (bo P w) a vs) /\
 ∀k:Str,match tb.lookup k with
  | none=>valueAt vs (.inr k)=none
  | some p=>∃u v,valueAt vs (.inr k)=some u/\RelV v u/\∀ads H,RD K ads H (O_ p) v
structure dm (kk:Nat) (X:Cx) (cc:CC) (G:bf):Prop where
 rh:DW kk X.A
 N:X.N=cc.N
 nd:cc.N.Nodup
 kinds:∀x k,cc.names.lookup x=some k->G4 X x k
 To:∀x,cc.names.lookup x=some .cell->X.fn x=true
 blt:∀b∈bI,X.mg b=none
 Rq:∀(x:Str)(v:Int),cc.gs.lookup x=some v->∃t,X.mg x=some (.int v t)
 Vm:∀k C r,(k,C,r)∈cc.xs.kt->D6 X.K X.mg k C r
 cat:∀cb C fs,(cb,C,fs)∈cc.xs.ct->D7 X.K X.mg cb C fs
 Pb:∀(x:Str)(a:Addr),(x,a)∈cc.xs.fa->X.mg x=some (.ref a)
 qj:∀x v:Str,(x,v)∈cc.xs.gt->∃t,X.mg x=some (.str v t)
 uY:∀(x:Str)(tb:lC),(x,tb)∈cc.xs.tb->rW X.prog X.w X.K X.mg x tb
 M9:∀(i:Nat)(x:Str)(n:Nat),cc.fs[i]?=some (x,n)->i∈cc.xs.hs->∃f fd ps,DX X.prog X.w X.K X.mg X.base OZ kk f fd ps (u6 X.K n (G i))/\X.mg x=some (.ref f)/\PySem.W.keepIn X.K (.ref f)=true/\Binds X.K fd ps []
section
variable [EX]
structure Good (kk:Nat) (X:Cx) (cc:CC) (G:bf):Prop extends cu:dm kk X cc G where
 calm:X.calm=true
 room:gG kk X.A
 fns:∀(i:Nat)(x:Str)(n:Nat),cc.fs[i]?=some (x,n)->∃f fd ps,fu X.prog X.w X.K X.mg X.base (uw X.prog X.w) kk f fd ps (u6 X.K n (G i))/\X.mg x=some (.ref f)/\PySem.W.keepIn X.K (.ref f)=true/\Binds X.K fd ps []
 ex:∃E:XK,mQ (uw X.prog X.w) X E/\∀{K:PySem.W.Frag}{ads:List Addr}{H:Hp}{x:xT}{M:ab},EX.post K ads H x M->(AS E).post K ads H x M
section
variable {kk:Nat} {X:Cx} {cc:CC} {G:bf}
theorem dm.Bk(g:dm kk X cc G){x:Str}(h:Bk cc x=true):OO X.env.scope x:=by
 unfold Ev.Bk at h;split at h
 ·rename_i q;exact .inl (g.kinds x _ q)
 ·rename_i q;exact .inr (.inl (g.kinds x _ q))
 ·rename_i q
  rcases g.kinds x _ q with z | z
  ·exact .inr (.inl z)
  ·exact .inr (.inr z)
 ·cases h
theorem dm.gl(g:dm kk X cc G){x:Str}(h:glob cc x=true):Gl X x:=by
 unfold glob at h;split at h
 ·rename_i q;exact g.kinds x _ q
 ·cases h
theorem cI{x:Str}(h:aY x=true):(x==("__debug__" : Str))=false/\(x==("__classdict__" : Str))=false/\x≠("__name__" : Str):=by
 unfold aY at h;simp only[aA,gB]at h;exact⟨h.1.1,h.1.2,λz=>by rw[z]at h;simp at h⟩
theorem eK{e:Expr}{t u:TE}(h:PE X e t)(f:∀σ H Q,u σ H Q->t σ H Q):PE X e u:=λpins s σ H Q I q=>h pins s σ H Q I (f σ H Q q)
theorem D8{e:Expr}{t u:TT}(h:PT X e t)(f:∀σ H Q,u σ H Q->t σ H Q):PT X e u:=λpins s σ H Q I q=>h pins s σ H Q I (f σ H Q q)
theorem Pc{e:Expr}{t u:TT}(h:PW X e t)(f:∀σ H Q,u σ H Q->t σ H Q):PW X e u:=λwh pins s σ H Q I q=>h wh pins s σ H Q I (f σ H Q q)
theorem Pd{e:List Expr}{t u:TA}(h:PA X e t)(f:∀σ H Q,u σ H Q->t σ H Q):PA X e u:=λp pins s σ H Q I q=>h p pins s σ H Q I (f σ H Q q)
theorem a0{e:Expr}(h:az e=true)(es:List Expr)(env:Env):starEach (e::es) env=(false,eval e env)::starEach es env:=by
 cases e<;>first | rfl | exact absurd (show false=true from h) aD
theorem M_{i:Nat}{e:Expr}(g:dm kk X cc G)(h:bb cc (.jC i) e=true):PE X e (tE X.K (ev G (.jC i))):=by
 refine aQ (P:=λe=>PE X e _) h λx pos h=>?_;have h:(cc.N[i]? == some x&&Bk cc x&&aY x)=true:=h;simp only[aA,dQ]at h;obtain⟨⟨h1,h2⟩,h3⟩:=h;obtain⟨d1,d2,_⟩:=cI h3;refine eK (Fw (i:=i) (by rw[g.N];exact h1) (g.Bk h2) d1 d2) λσ H Q q=>?_;obtain⟨ads,M,ρ,s,q⟩:=q;simp only[xX]at q;split at q
 ·rename_i d e
  obtain⟨v,Rr,r⟩:=s.en i d e;exact⟨v,Rr,q.plain s.mem r⟩
 ·exact q.elim
theorem oY{d:D}{v:V}(hd:∀ads H,RD X.K ads H d v)(σ:L2.St)(H:Hp)(Q:VK)(h:tE X.K (ev G (.a_ d)) σ H Q):tC v σ H Q:=by
 obtain⟨ads,M,ρ,s,q⟩:=h;exact bg.plain q s.mem (hd _ _)
theorem D9{d:D}{e:Expr}(h:bb cc (.a_ d) e=true):PE X e (tE X.K (ev G (.a_ d))):=by
 replace h:gM d e=true:=h
 rcases(vk _ _).mp h with h | h
 case inr =>
  refine dI (P:=λe=>PE X e _) h λop x pos h=>?_
  replace h:=(aA _ _).mp h
  have h0:=h.1
  replace h:=h.2
  cases op<;>first | exact absurd (show false=true from h0) aD | skip
  refine bV (P:=λx=>PE X (.UnaryOp .USub x pos) _) h λc j p h=>?_;clear h0;rcases d with _|_ | i | _|_|_|_<;>first | exact absurd (show false=true from h) aD | skip
  rcases c with _|_ | k | _|_|_|_|_<;>first | exact absurd (show false=true from h) aD | skip
  have h:i=-k:=eq_of_beq h;subst h;exact eK (LV FW wH) λσ H Q q=>⟨k,rfl,oY (λ_ _=>cy _) σ H Q q⟩
 refine bV (P:=λe=>PE X e _) h λc j pos h=>?_
 cases d with
 | int i =>
  cases c<;>first | exact absurd (show false=true from h) aD | skip
  have h:=eq_of_beq (show(i==_)=true from h);subst h;exact eK wH (oY λ_ _=>cy _)
 | bl i =>
  cases c<;>first | exact absurd (show false=true from h) aD | skip
  have h:=eq_of_beq (show(i==_)=true from h);subst h;exact eK LD (oY λ_ _=>gv _)
 | str i =>
  cases c<;>first | exact absurd (show false=true from h) aD | skip
  have h:=eq_of_beq (show(i==_)=true from h);subst h;exact eK wI (oY λ_ _=>dY _)
 | br =>
  cases c<;>first | exact absurd (show false=true from h) aD | skip
  exact eK Fx (oY λ_ _=>kA)
 | tup _=>cases h
 | aX _=>cases h
 | ls _=>cases h
 | fn _=>cases h
 | tg _=>cases h
theorem Na{op:zG}{a b:C}{e:Expr}(rX:∀e,bb cc a e=true->PE X e (tE X.K (ev G a)))(Bo:∀e,bb cc b e=true->PE X e (tE X.K (ev G b)))(h:bb cc (.bin op a b) e=true):PE X e (tE X.K (ev G (.bin op a b))):=by
 refine kE (P:=λe=>PE X e _) h λl o r pos h=>?_;have h:(o==Be op&&bb cc a l&&bb cc b r)=true:=h;simp only[aA,dQ]at h;obtain⟨⟨rfl,h1⟩,h2⟩:=h;refine eK (DM (GL op) (rX l h1) (Bo r h2)) λσ H Q q=>?_;exact two (λm r1 r2 h=>⟨_,_,_,_,m,r1,r2,h⟩) q
theorem qA{K:PySem.W.Frag}{ads:List Addr}{H:Hp}{Q:VK}{o:bp Bool}(h:bg K ads H Q (o.bind λr M=>.ok (.d (.bl r)) M)):D1 K ads H Q o:=by
 cases o with
 | ok b M=>exact λH' ao g m=>h (.bl b) H' ao g m (show RD K ao H' (.bl b) _ from gv _)
 | err _ _=>exact h
 | aa=>exact h
theorem yq{b:C}{e:Expr}(hn:isNone e=true)(hb:bb cc b e=true):b=.a_ .br:=by
 revert hb;refine bV (P:=λe=>bb cc b e=true->b=.a_ .br) hn λc j pos hn hb=>?_;cases c<;>first | cases hn | skip
 cases b<;>first | exact absurd (show false=true from hb) aD | skip
 rename_i d
 cases d<;>first | rfl | exact absurd (show false=true from hb) aD
theorem D_{op:ux}{a b:C}{e:Expr}(g:dm kk X cc G)(rX:∀e,bb cc a e=true->PE X e (tE X.K (ev G a)))(Bo:∀e,bb cc b e=true->PE X e (tE X.K (ev G b)))(h:bb cc (.cmp op a b) e=true):PE X e (tE X.K (ev G (.cmp op a b)))/\PT X e (gp (tE X.K (ev G (.cmp op a b)))):=by
 refine fb (P:=λe=>PE X e (tE X.K (ev G (.cmp op a b)))/\PT X e (gp (tE X.K (ev G (.cmp op a b))))) h λl ops rs pos h=>?_;rcases ops with _|⟨o,_|⟨o2,ops⟩⟩<;>rcases rs with _|⟨r,_|⟨r2,rs⟩⟩<;>first | exact absurd (show false=true from h) aD | skip
 have h:(o==GN op && !behindInMarks o r&&(if op=.isN\/op=.notN then isNone r else true)&&bb cc a l&&bb cc b r)=true:=h;simp only[aA,dQ,gB]at h;obtain⟨⟨⟨⟨rfl,hm⟩,hn⟩,h1⟩,h2⟩:=h;have Rt:=g.rh.un
 have j_:∀σ H Q,tE X.K (ev G (.cmp op a b)) σ H Q->FN (Bg X.K op) (tE X.K (ev G a)) (tE X.K (ev G b)) σ H Q:=by
  intro σ H Q q;by_cases Tp:op=.isN\/op=.notN
  ·rw[aG Tp]at hn;have eb:=yq hn h2;subst eb;obtain⟨ads,M,ρ,s,q⟩:=q;refine bQ s q λw M1 v H1 ae s1 i0 q1=>⟨ae,M1,ρ,s1,?_⟩;intro vy H2 aO g2 m2 ry;have ey:=kz ry;refine⟨aO,M1,w,.d .br,m2,g2.rw i0,(show RD X.K aO H2 .br vy by rw[ey];exact kA),λ_=>ey,?_⟩;have q1:bg X.K ae H1 Q ((bM op w (.d .br) M1).bind λr M=>.ok (.d (.bl r)) M):=q1;exact qA (q1.shift g2 s1.mem m2)
  ·exact two (λm r1 r2 h=>⟨_,_,_,_,m,r1,r2,λz=>absurd z Tp,qA h⟩) q
 exact⟨eK (rg (i4 ∅ op) (rX l h1) (Bo r h2) hm) j_,D8 (rl (i4 ∅ op) (rX l h1) (Bo r h2) hm) λσ H Q q=>j_ σ H _ q⟩
theorem Nb{a:C}{e:Expr}(rX:∀e,bb cc a e=true->PE X e (tE X.K (ev G a)))(h:bb cc (.neg a) e=true):PE X e (tE X.K (ev G (.neg a))):=by
 refine dI (P:=λe=>PE X e _) h λop x pos h=>?_;obtain⟨h0,h⟩:=(aA _ _).mp h;cases op<;>first | exact absurd (show false=true from h0) aD | skip
 refine eK (FD (rX x h)) λσ H Q q=>?_;obtain⟨ads,M,ρ,s,q⟩:=q;refine bQ s q λw M1 v H1 ae s1 i0 q1=>?_;rcases w with⟨_ | b | _|_|_|_⟩|_<;>first | exact q1.elim | skip
 exact⟨b,ie i0,bg.plain q1 s1.mem (gv _)⟩
theorem Nc{cs:List C}{e:Expr}(ih:∀es,bE cc cs es=true->PA X es (zI X.K (a9 G cs)))(h:bb cc (.tup cs) e=true):PE X e (tE X.K (ev G (.tup cs))):=by
 refine fc (P:=λe=>PE X e _) h λes k pos h=>?_;refine eK (w8 (ih es h)) λσ H Q q=>?_;obtain⟨ads,M,ρ,s,q⟩:=q;refine⟨ads,M,ρ,s,?_⟩;simp only[x3]at q
 cases hq:a9 G cs ρ M with
 | ok ds M1 =>
  rw[hq]at q;have q:bg X.K ads H Q (if ds.length<=sizeLine then .ok (.d (.tup ds)) M1 else .aa):=q;intro vs H1 ae g1 m1 r1;split at q
  ·rename_i hz
   exact⟨by rw[<- r1.len];exact hz,λp hp=>(q.shift g1 s.mem m1).tuple m1 r1 hp⟩
  ·exact q.elim
 | err _ _=>rw[hq]at q;exact q
 | aa=>rw[hq]at q;exact q
theorem Nd{cs:List C}{e:Expr}(ih:∀es,bE cc cs es=true->PA X es (zI X.K (a9 G cs)))(h:bb cc (.lst cs) e=true):PE X e (tE X.K (ev G (.lst cs))):=by
 refine uJ (P:=λe=>PE X e _) h λes pos h=>?_;refine eK (F1 (ih es h)) λσ H Q q=>?_;obtain⟨ads,M,ρ,s,q⟩:=q;refine⟨ads,M,ρ,s,?_⟩;simp only[x4]at q
 cases hq:a9 G cs ρ M with
 | ok ds M1 =>
  rw[hq]at q;have q:bg X.K ads H Q (if ds.length<=sizeLine then .ok (.lv ds) M1 else .aa):=q;intro vs H1 ae g1 m1 r1;split at q
  ·rename_i hz
   exact⟨by rw[<- r1.len];exact hz,λp hp=>(q.shift g1 s.mem m1).list m1 r1 hp⟩
  ·exact q.elim
 | err _ _=>rw[hq]at q;exact q
 | aa=>rw[hq]at q;exact q
theorem nw{K:PySem.W.Frag}{ads ao:List Addr}{H H':Hp}{w:W}{v:V}{M1:ab}{d:D}{M2:ab}(m:aJ K ads H M)(g:ay ads ao H H')(m1:aJ K ao H' M1)(r:GJ K ao H H' w v)(e:own w M1=.ok d M2):∃aO,ay ads aO H H'/\aJ K aO H' M2/\RD K aO H' d v:=by
 cases w with
 | d x=>cases e;exact⟨ao,g,m1,r⟩
 | lv ds =>
  cases e;obtain⟨a,xs,rfl,h0,h1,n,r⟩:=r;refine⟨ao++[a],⟨?_,λb hb nb=>?_,g.kept,g.ft,g.eX⟩,m1.push n ⟨xs,h1,r⟩,?_⟩
  ·obtain⟨t,e⟩:=g.pre;exact⟨t++[a],by rw[e,pR]⟩
  ·rcases gW.mp hb with z | z
   ·exact g.new b z nb
   ·have:b=a:=by simpa using z
    subst this;exact h0
  ·unfold RD;exact⟨a,rfl,by rw[nQ (by rw[m1.len];exact a6 _)];simp[m1.len]⟩
theorem Nf:PA X [] (zI X.K (a9 G [])):=Pd fC λσ H Q q=>by
 obtain⟨ads,M,ρ,s,q⟩:=q;exact q [] H ads (ay.refl _ _) s.mem (by unfold aF;rfl)
theorem G5{c:C}{cs:List C}{e:Expr}{es:List Expr}(hs:az e=true)(ha:PE X e (tE X.K (ev G c)))(hr:PA X es (zI X.K (a9 G cs))):PA X (e::es) (zI X.K (a9 G (c::cs))):=by
 refine Pd (cm ha hr (a0 hs es X.env)) λσ H Q q=>?_;obtain⟨ads,M,ρ,s,q⟩:=q;refine⟨ads,M,ρ,s,?_⟩;simp only[eO,dM]at q
 cases hq:ev G c ρ M with
 | ok w M1 =>
  rw[hq]at q;intro v H1 ae g1 m1 r1
  cases ho:own w M1 with
  | ok d M2 =>
   have q:oS X.K ads H Q ((own w M1).bind λd M=>(a9 G cs ρ M).bind λds M=>.ok (d::ds) M):=q;rw[ho]at q;obtain⟨aO,g2,m2,rd⟩:=nw s.mem g1 m1 r1 ho;refine⟨aO,M2,ρ,s.grow g2 m2,?_⟩;have q:oS X.K ads H Q ((a9 G cs ρ M2).bind λds M=>.ok (d::ds) M):=q
   cases yr:a9 G cs ρ M2 with
   | ok ds M3 =>
    rw[yr]at q;intro vs H3 cY g3 m3 r3;refine q (v::vs) H3 cY (g2.trans g3) m3 ?_;unfold aF;exact⟨v,vs,rfl,g3.rd _ _ rd,r3⟩
   | err _ _=>rw[yr]at q;exact EX.shift (show EX.post X.K ads H _ _ from q) g2
   | aa=>rw[yr]at q;exact q
  | err _ _=>cases w<;>cases ho
  | aa=>cases w<;>cases ho
 | err _ _=>rw[hq]at q;exact q
 | aa=>rw[hq]at q;exact q
end
end
section
variable [EX]
section
variable {kk:Nat} {X:Cx} {cc:CC} {G:bf}
theorem rY{o1 o2:ux}{a b c:C}{e:Expr}(g:dm kk X cc G)(rX:∀e,bb cc a e=true->PE X e (tE X.K (ev G a)))(Bo:∀e,bb cc b e=true->PE X e (tE X.K (ev G b)))(Pe:∀e,bb cc c e=true->PE X e (tE X.K (ev G c)))(h:bb cc (.chain o1 o2 a b c) e=true):PE X e (tE X.K (ev G (.chain o1 o2 a b c)))/\PT X e (gp (tE X.K (ev G (.chain o1 o2 a b c)))):=by
 refine fb (P:=λe=>PE X e (tE X.K (ev G (.chain o1 o2 a b c)))/\PT X e (gp (tE X.K (ev G (.chain o1 o2 a b c))))) h λl ops rs pos h=>?_;rcases ops with _|⟨p,_|⟨q,_|⟨_,ops⟩⟩⟩<;>rcases rs with _|⟨m,_|⟨r,_|⟨_,rs⟩⟩⟩<;>first | exact absurd (show false=true from h) aD | skip
 have h:(p==GN o1&&q==GN o2 && !lastMarks [p,q] [m,r] && !(decide (o1=.isN)||decide (o1=.notN)||decide (o2=.isN)||decide (o2=.notN))&&bb cc a l&&bb cc b m&&bb cc c r)=true:=h;simp only[aA,dQ,gB,Bool.or_eq_false_iff,decide_eq_false_iff_not]at h;obtain⟨⟨⟨⟨⟨⟨rfl,rfl⟩,hm⟩,⟨⟨⟨n1,n2⟩,n3⟩,n4⟩⟩,h1⟩,h2⟩,h3⟩:=h;have Rt:=g.rh.un
 have j_:∀σ H Q,tE X.K (ev G (.chain o1 o2 a b c)) σ H Q->p6 (Bg X.K o1) (Bg X.K o2) (tE X.K (ev G a)) (tE X.K (ev G b)) (tE X.K (ev G c)) σ H Q:=by
  intro σ H Q q;obtain⟨ads,M,ρ,s,q⟩:=q;refine bQ s q λx M1 v H1 ae s1 rx q1=>?_;refine⟨ae,M1,ρ,s1,?_⟩
  cases hq:ev G b ρ M1 with
  | ok y M2 =>
   rw[hq]at q1;intro vy H2 aO g2 m2 ry;have q2:bg X.K ae H1 Q ((bM o1 x y M2).bind λr M=>if r then (ev G c ρ M).bind λz M=>(bM o2 y z M).bind λr M=>.ok (.d (.bl r)) M else .ok (.d (.bl false)) M):=q1;have s2:=s1.grow g2 m2;refine⟨aO,M2,x,y,m2,g2.rw rx,ry.rw,λz=>absurd z (by simp[n1,n2]),?_⟩
   cases hc:bM o1 x y M2 with
   | ok k M3 =>
    rw[hc]at q2;intro H3 cY g3 m3;have s3:=s2.grow g3 m3;have Vn:=g3.rw ry.rw;refine⟨k,rfl,?_⟩;have q3:bg X.K cY H3 Q (if k then (ev G c ρ M3).bind λz M=>(bM o2 y z M).bind λr M=>.ok (.d (.bl r)) M else .ok (.d (.bl false)) M3):=bg.shift q2 (g2.trans g3) s1.mem m3
    cases k with
    | false=>rw[aR (by simp)]at q3⊢;exact bg.plain q3 m3 (gv _)
    | true =>
     rw[aG rfl]at q3⊢;refine⟨cY,M3,ρ,s3,?_⟩
     cases hz:ev G c ρ M3 with
     | ok z M4 =>
      rw[hz]at q3;intro vz H4 Bp g4 m4 rz;exact⟨Bp,M4,y,z,m4,g4.rw Vn,rz.rw,λw=>absurd w (by simp[n3,n4]),qA (bg.shift (o:=(bM o2 y z M4).bind λr M=>.ok (.d (.bl r)) M) q3 g4 m3 m4)⟩
     | err _ _=>rw[hz]at q3;exact q3
     | aa=>rw[hz]at q3;exact q3
   | err _ _=>rw[hc]at q2;exact EX.shift (show EX.post X.K ae H1 _ _ from q2) g2
   | aa=>rw[hc]at q2;exact q2
  | err _ _=>rw[hq]at q1;exact q1
  | aa=>rw[hq]at q1;exact q1
 exact⟨eK (wY (i4 ∅ o1) (i4 ∅ o2) (rX l h1) (Bo m h2) (Pe r h3) hm) j_,D8 (wZ (i4 ∅ o1) (i4 ∅ o2) (rX l h1) (Bo m h2) (Pe r h3) hm) λσ H Q q=>j_ σ H _ q⟩
theorem Bq{x:Str}{tt:lC}{b:C}{i:Expr}{p pos:Pos}(g:dm kk X cc G)(hg:glob cc x=true)(hp:aY x=true)(ht:(x,tt)∈cc.xs.tb)(hs:Ma i)(hi:PE X i (tE X.K (ev G b))):PE X (.Subscript (.Name x p) i pos) (tE X.K (ev G (.ib x tt b))):=by
 obtain⟨a,vs,hm,hd,dd,hk⟩:=g.uY x tt ht;intro pins s σ H Q I q;refine Aq PySem.F.slot_dict_getitem.lookup hs (mL I (g.gl hg) hm ?_ (cI hp).1);obtain⟨ads,M,ρ,sr,q⟩:=q;refine bP (hi pins s σ H (λy H2=>∃aO M2 w,aJ X.K aO H2 M2/\RW X.K aO H2 w y/\bg X.K aO H2 Q (nh tt w M2)) I ⟨ads,M,ρ,sr,?_⟩) λiv s2 ⟨y,H2,I2,ry,aO,M2,w,m2,MC,q2⟩=>?_
 ·rw[rQ]at q
  cases hq:ev G b ρ M with
  | ok w M1 =>
   rw[hq]at q;intro v H1 ae g1 m1 r1;exact⟨ae,M1,w,m1,r1.rw,bg.shift (o:=nh tt w M1) q g1 sr.mem m1⟩
  | err _ _=>rw[hq]at q;exact q
  | aa=>rw[hq]at q;exact q
 ·rcases w with⟨_|_|_ | k | _|_|_⟩|_<;>first | exact q2.elim | skip
  have e1:=bz MC;subst e1;have hk:=hk k;unfold nh at q2;dsimp only at q2
  cases hl:tt.lookup k with
  | none=>rw[hl]at q2;exact q2.elim
  | some pr =>
   rw[hl]at q2 hk;obtain⟨u,v,h1,h2,h3⟩:=hk;have D:=dd s2.heap I2.g7;refine⟨D.typeIs,wpAny_getItem_of (l7 (k:=.inr k) ry) D.mapOf h1 ⟨v,H2,I2.tok _,h2,?_⟩⟩;exact bg.plain q2 m2 (h3 aO H2)
theorem yt{x:Str}{tt:lC}{a:Addr}{vs:List (bG×Value)}(hd:(a==sysModules)=false)(dd:∀h:Heap,X.K.In h->h.DictOf (bo X.prog X.w) a vs):fR X (compareOp .NotIn) (λy z H Q=>∃k:Str,y=.str k/\z=.ref a/\Q (.bl (!(valueAt vs (.inr k)).isSome)) H):=by
 intro pins s σ H y z v u Q I ry rz h;obtain⟨k,rfl,rfl,q⟩:=h;obtain rfl:u=Value.ref a:=rz;exact wpAny_notIn_of (l7 (k:=.inr k) ry) hd (dd s.heap I.g7).mapOf ⟨.bl _,H,I.tok _,rfl,q⟩
theorem Ea{x:Str}{tt:lC}{a:C}{e:Expr}(g:dm kk X cc G)(rX:∀e,bb cc a e=true->PE X e (tE X.K (ev G a)))(h:bb cc (.lO x tt a) e=true):PE X e (tE X.K (ev G (.lO x tt a)))/\PT X e (gp (tE X.K (ev G (.lO x tt a)))):=by
 refine fb (P:=λe=>PE X e (tE X.K (ev G (.lO x tt a)))/\PT X e (gp (tE X.K (ev G (.lO x tt a))))) h λl ops rs pos h=>?_;rcases ops with _|⟨o,_|⟨o2,ops⟩⟩<;>rcases rs with _|⟨r,_|⟨r2,rs⟩⟩<;>first | exact absurd (show false=true from h) aD | skip
 have h:(o==CmpOp.NotIn && !behindInMarks o r&&(bD r λy _=>y==x&&glob cc x&&aY x)&&cc.xs.tb.contains (x,tt)&&bb cc a l)=true:=h;simp only[aA,dQ,gB]at h;obtain⟨⟨⟨⟨rfl,hm⟩,hn⟩,ht⟩,h1⟩:=h;refine aQ (P:=λr=>behindInMarks .NotIn r=false->PE X (.Compare l [.NotIn] [r] pos) (tE X.K (ev G (.lO x tt a)))/\PT X (.Compare l [.NotIn] [r] pos) (gp (tE X.K (ev G (.lO x tt a))))) hn (λy yp hn hm=>?_) hm;simp only[aA,dQ]at hn;obtain⟨⟨rfl,hg⟩,hp⟩:=hn;obtain⟨ad,vs,Gg,hd,dd,hk⟩:=g.uY y tt (va.mp ht)
 have j_:∀σ H Q,tE X.K (ev G (.lO y tt a)) σ H Q->FN (λy z H Q=>∃k:Str,y=.str k/\z=.ref ad/\Q (.bl (!(valueAt vs (.inr k)).isSome)) H) (tE X.K (ev G a)) (tC (.ref ad)) σ H Q:=λσ H Q q=>by
  obtain⟨ads,M,ρ,s,q⟩:=q;rw[qq]at q;refine bQ s q λw M1 v H1 ae s1 i0 q1=>?_;rcases w with⟨_|_|_ | k | _|_|_⟩|_<;>first | exact q1.elim | skip
  have e1:=bz i0;subst e1
  have e2:(!(valueAt vs (.inr k)).isSome)=(tt.lookup k).isNone:=by
   have hk:=hk k
   cases hl:tt.lookup k with
   | none=>rw[hl]at hk;rw[hk];rfl
   | some pr=>rw[hl]at hk;obtain⟨u,v,h1,_⟩:=hk;rw[h1];rfl
  exact⟨k,rfl,rfl,by rw[e2];exact bg.plain q1 s1.mem (gv _)⟩
 have pn:PE X (.Name y yp) (tC (.ref ad)):=jH (v:=.ref ad) (u:=.ref ad) (g.gl hg) Gg rfl (cI hp).1;exact⟨eK (rg (yt hd dd (x:=y) (tt:=tt)) (rX l h1) pn hm) j_,D8 (rl (yt hd dd (x:=y) (tt:=tt)) (rX l h1) pn hm) λσ H Q q=>j_ σ H _ q⟩
theorem G6{x:Str}{tt:lC}{a:C}(ρ:En)(M:ab)(w:W)(M':ab)(h:ev G (.lO x tt a) ρ M=.ok w M'):∃k,w=.d (.bl k):=by
 rw[qq]at h
 cases h1:ev G a ρ M with
 | ok x M1 =>
  rw[h1]at h;have h:uB tt x M1=.ok w M':=h;unfold uB at h;split at h
  ·cases h;exact⟨_,rfl⟩
  ·cases h
 | err _ _=>rw[h1]at h;cases h
 | aa=>rw[h1]at h;cases h
theorem Ng{a b:C}{e:Expr}(rX:∀e,bb cc a e=true->PE X e (tE X.K (ev G a)))(Bo:∀e,bb cc b e=true->PE X e (tE X.K (ev G b)))(h:bb cc (.cat a b) e=true):PE X e (tE X.K (ev G (.cat a b))):=by
 refine kE (P:=λe=>PE X e _) h λl o r pos h=>?_;have h:(o == .Add&&bb cc a l&&bb cc b r)=true:=h;simp only[aA,dQ]at h;obtain⟨⟨rfl,h1⟩,h2⟩:=h;refine eK (DM p8 (rX l h1) (Bo r h2)) λσ H Q q=>two (λ{ads M H x y vx vy Q} m r1 r2 h=>?_) q;rcases x with⟨_|_|_ | k | _|_|_⟩|_<;>first | exact h.elim | skip
 rcases y with⟨_|_|_ | j | _|_|_⟩|_<;>first | exact h.elim | skip
 have e1:=bz r1;have e2:=bz r2;subst e1 e2;unfold qo at h;dsimp only at h;by_cases c:k.length+j.length<=sizeLine
 ·rw[aG c]at h;exact⟨k,j,rfl,rfl,c,bg.plain h m (dY _)⟩
 ·rw[aR c]at h;exact h.elim
theorem Eb{op:BoolOp}:∀(cs:List C)(es:List Expr)(pos:Pos),(∀c∈cs,∀e,bb cc c e=true->PE X e (tE X.K (ev G c)))->bE cc cs es=true->es≠[]->PE X (.BoolOp .And es pos) (tE X.K (gu G cs))
 | [],[],_,_,_,h=>absurd rfl h
 | [],_::_,_,_,h,_=>by cases h
 | _::_,[],_,_,h,_=>by cases h
 | c::cs,e::es,pos,ih,h,_=>by
  have h':(az e&&bb cc c e&&bE cc cs es)=true:=h;simp only[aA]at h';have he:=ih c cD e h'.1.2
  cases es with
  | nil =>
   cases cs with
   | cons _ _=>cases h'.2
   | nil =>
    refine eK (wJ he) λσ H Q q=>?_;obtain⟨ads,M,ρ,s,q⟩:=q;refine⟨ads,M,ρ,s,?_⟩;simp only[iV,gJ]at q
    cases hq:ev G c ρ M with
    | ok w M1=>rw[hq]at q;exact q
    | err _ _=>rw[hq]at q;exact q
    | aa=>rw[hq]at q;exact q
  | cons e2 es =>
   cases cs with
   | nil=>cases h'.2
   | cons c2 cs =>
    have hr:=Eb (op:=op) (c2::cs) (e2::es) pos (λc hc=>ih c (du _ hc)) h'.2 (by simp);refine eK (FC he hr) λσ H Q q=>?_;obtain⟨ads,M,ρ,s,q⟩:=q
    have q:bg X.K ads H Q ((ev G c ρ M).bind λx M=>match c2::cs,x with
     | [],x=>.ok x M
     | _,.d (.bl true)=>gu G (c2::cs) ρ M
     | _,.d (.bl false)=>.ok (.d (.bl false)) M
     | _,_=>.aa):=by unfold gu at q;exact q
    refine bQ s q λw M1 v H1 ae s1 i0 q1=>?_;rcases w with⟨_ | b | _|_|_|_⟩|_<;>first | exact q1.elim | skip
    refine⟨b,ie i0,?_⟩
    cases b with
    | false=>rw[aR (by simp)];exact bg.plain q1 s1.mem (gv _)
    | true=>rw[aG rfl];exact⟨ae,M1,ρ,s1,q1⟩
theorem Nh:∀(cs:List C)(es:List Expr)(pos:Pos),(∀c∈cs,∀e,bb cc c e=true->PE X e (tE X.K (ev G c)))->bE cc cs es=true->es≠[]->PE X (.BoolOp .Or es pos) (tE X.K (lS G cs))
 | [],[],_,_,_,h=>absurd rfl h
 | [],_::_,_,_,h,_=>by cases h
 | _::_,[],_,_,h,_=>by cases h
 | c::cs,e::es,pos,ih,h,_=>by
  have h':(az e&&bb cc c e&&bE cc cs es)=true:=h;simp only[aA]at h';have he:=ih c cD e h'.1.2
  cases es with
  | nil =>
   cases cs with
   | cons _ _=>cases h'.2
   | nil =>
    refine eK (wJ he) λσ H Q q=>?_;obtain⟨ads,M,ρ,s,q⟩:=q;refine⟨ads,M,ρ,s,?_⟩;simp only[ko,iX]at q
    cases hq:ev G c ρ M with
    | ok w M1=>rw[hq]at q;exact q
    | err _ _=>rw[hq]at q;exact q
    | aa=>rw[hq]at q;exact q
  | cons e2 es =>
   cases cs with
   | nil=>cases h'.2
   | cons c2 cs =>
    have hr:=Nh (c2::cs) (e2::es) pos (λc hc=>ih c (du _ hc)) h'.2 (by simp);refine eK (LI he hr) λσ H Q q=>?_;obtain⟨ads,M,ρ,s,q⟩:=q
    have q:bg X.K ads H Q ((ev G c ρ M).bind λx M=>match c2::cs,x with
     | [],x=>.ok x M
     | _,.d (.bl false)=>lS G (c2::cs) ρ M
     | _,.d (.bl true)=>.ok (.d (.bl true)) M
     | _,_=>.aa):=by unfold lS at q;exact q
    refine bQ s q λw M1 v H1 ae s1 i0 q1=>?_;rcases w with⟨_ | b | _|_|_|_⟩|_<;>first | exact q1.elim | skip
    refine⟨b,ie i0,?_⟩
    cases b with
    | true=>rw[aG rfl];exact bg.plain q1 s1.mem (gv _)
    | false=>rw[aR (by simp)];exact⟨ae,M1,ρ,s1,q1⟩
theorem ny{K:PySem.W.Frag}{ads:List Addr}{H:Hp}{M:ab}{ρ:En}{σ:L2.St}{o:En->ab->bp Bool}{k:Bool->ab->bp Bool}{Q:Bool->Hp->Prop}{R:Bool->Hp->Prop}(s:SR K ads M ρ σ H)(h:zH K ads H Q ((o ρ M).bind k))(hk:∀w M1 H1 ae,SR K ae M1 ρ σ H1->zH K ae H1 Q (k w M1)->R w H1):lD K o σ H R:=by
 refine⟨ads,M,ρ,s,?_⟩
 cases q:o ρ M with
 | ok w M1 =>
  rw[q]at h;have h:zH K ads H Q (k w M1):=h;exact λH1 ae g1 m1=>hk w M1 H1 ae (s.grow g1 m1) (h.shift g1)
 | err _ _=>rw[q]at h;exact h
 | aa=>rw[q]at h;exact h
theorem Ni{c:C}{σ:L2.St}{H:Hp}{Q:Bool->Hp->Prop}(h:lD X.K (cT G (.val c)) σ H Q):tE X.K (ev G c) σ H λx H'=>∃k,w4 X.K x H' k/\Q k H':=by
 obtain⟨ads,M,ρ,s,q⟩:=h;refine⟨ads,M,ρ,s,?_⟩;simp only[nj]at q
 cases hq:ev G c ρ M with
 | ok w M1 =>
  rw[hq]at q;intro v H1 ae g1 m1 r1;have q:zH X.K ads H Q (match lQ M1 w with | some r=>.ok r M1 | none=>.aa):=q
  cases ht:lQ M1 w with
  | none=>rw[ht]at q;exact q.elim
  | some k=>rw[ht]at q;exact⟨k,MZ m1 r1.rw ht,q H1 ae g1 m1⟩
 | err _ _=>rw[hq]at q;exact q
 | aa=>rw[hq]at q;exact q
theorem Br{e:Expr}(h:fW e=true)(env:Env):∀j1,isTrue e env j1=(do let v <- j1;standAt e.pos;holding [v] (truthy v)):=by
 cases e<;>first | (intro _;rfl) | exact absurd (show false=true from h) aD
theorem Bs{c:C}{e:Expr}(hp:fW e=true)(he:PE X e (tE X.K (ev G c))):PT X e (lD X.K (cT G (.val c))) :=
 D8 (w6 he (Br hp X.env)) λσ H Q q=>Ni q
theorem qB{c:C}{e:Expr}(hb:∀ρ M w M',ev G c ρ M=.ok w M'->∃k,w=.d (.bl k))(he:PT X e (gp (tE X.K (ev G c)))):PT X e (lD X.K (cT G (.val c))):=by
 refine D8 he λσ H Q q=>?_;obtain⟨ads,M,ρ,s,q⟩:=q;refine⟨ads,M,ρ,s,?_⟩;simp only[nj]at q
 cases hq:ev G c ρ M with
 | ok w M1 =>
  rw[hq]at q;obtain⟨k,rfl⟩:=hb _ _ _ _ hq;intro v H1 ae g1 m1 r1;exact⟨k,ie r1,q H1 ae g1 m1⟩
 | err _ _=>rw[hq]at q;exact q
 | aa=>rw[hq]at q;exact q
theorem G7{op:ux}{a b:C}(ρ:En)(M:ab)(w:W)(M':ab)(h:ev G (.cmp op a b) ρ M=.ok w M'):∃k,w=.d (.bl k):=by
 simp only[xY]at h
 cases h1:ev G a ρ M with
 | ok x M1 =>
  rw[h1]at h;simp only[bp.bind]at h
  cases h2:ev G b ρ M1 with
  | ok y M2 =>
   rw[h2]at h;simp only at h
   cases h3:bM op x y M2 with
   | ok k M3=>rw[h3]at h;cases h;exact⟨k,rfl⟩
   | err _ _=>rw[h3]at h;cases h
   | aa=>rw[h3]at h;cases h
  | err _ _=>rw[h2]at h;cases h
  | aa=>rw[h2]at h;cases h
 | err _ _=>rw[h1]at h;cases h
 | aa=>rw[h1]at h;cases h
theorem yu{o1 o2:ux}{a b c:C}(ρ:En)(M:ab)(w:W)(M':ab)(h:ev G (.chain o1 o2 a b c) ρ M=.ok w M'):∃k,w=.d (.bl k):=by
 simp only[oQ]at h
 cases h1:ev G a ρ M with
 | ok x M1 =>
  rw[h1]at h;simp only[bp.bind]at h
  cases h2:ev G b ρ M1 with
  | ok y M2 =>
   rw[h2]at h;simp only at h
   cases h3:bM o1 x y M2 with
   | ok k M3 =>
    rw[h3]at h;simp only at h
    cases k with
    | false=>cases h;exact⟨_,rfl⟩
    | true =>
     simp only[gY]at h
     cases h4:ev G c ρ M3 with
     | ok z M4 =>
      rw[h4]at h;simp only at h
      cases h5:bM o2 y z M4 with
      | ok k M5=>rw[h5]at h;cases h;exact⟨k,rfl⟩
      | err _ _=>rw[h5]at h;cases h
      | aa=>rw[h5]at h;cases h
     | err _ _=>rw[h4]at h;cases h
     | aa=>rw[h4]at h;cases h
   | err _ _=>rw[h3]at h;cases h
   | aa=>rw[h3]at h;cases h
  | err _ _=>rw[h2]at h;cases h
  | aa=>rw[h2]at h;cases h
 | err _ _=>rw[h1]at h;cases h
 | aa=>rw[h1]at h;cases h
theorem Nj{t:dv}{e:Expr}{pos:Pos}(ih:PT X e (lD X.K (cT G t))):PT X (.UnaryOp .Not e pos) (lD X.K (cT G (.neg t))):=by
 refine D8 (FA ih) λσ H Q q=>?_;obtain⟨ads,M,ρ,s,q⟩:=q;exact ny s q λw M1 H1 ae s1 q1=>q1 H1 ae (ay.refl _ _) s1.mem
theorem Ec:∀(ts:List dv)(es:List Expr)(pos:Pos),(∀t∈ts,∀e,i6 cc t e=true->PT X e (lD X.K (cT G t)))->kK cc ts es=true->es≠[]->PW X (.BoolOp .And es pos) (lD X.K (ed G ts))
 | [],[],_,_,_,h=>absurd rfl h
 | [],_::_,_,_,h,_=>by cases h
 | _::_,[],_,_,h,_=>by cases h
 | c::cs,e::es,pos,ih,h,_=>by
  have h':(i6 cc c e&&kK cc cs es)=true:=h;simp only[aA]at h';have he:=ih c cD e h'.1
  cases es with
  | nil =>
   cases cs with
   | cons _ _=>cases h'.2
   | nil =>
    refine Pc (Af he) λσ H Q q=>?_;obtain⟨ads,M,ρ,s,q⟩:=q;refine⟨ads,M,ρ,s,?_⟩;simp only[iY,gK]at q
    cases hq:cT G c ρ M with
    | ok w M1=>rw[hq]at q;exact q
    | err _ _=>rw[hq]at q;exact q
    | aa=>rw[hq]at q;exact q
  | cons e2 es =>
   cases cs with
   | nil=>cases h'.2
   | cons c2 cs =>
    have hr:=Ec (c2::cs) (e2::es) pos (λc hc=>ih c (du _ hc)) h'.2 (by simp);refine Pc (Fz he hr) λσ H Q q=>?_;obtain⟨ads,M,ρ,s,q⟩:=q
    have q:zH X.K ads H Q ((cT G c ρ M).bind λx M=>match c2::cs,x with
     | [],x=>.ok x M
     | _,true=>ed G (c2::cs) ρ M
     | _,false=>.ok false M):=by unfold ed at q;exact q
    refine ny s q λw M1 H1 ae s1 q1=>?_
    cases w with
    | false=>rw[aR (by simp)];exact q1 H1 ae (ay.refl _ _) s1.mem
    | true=>rw[aG rfl];exact⟨ae,M1,ρ,s1,q1⟩
theorem Ed:∀(ts:List dv)(es:List Expr)(pos:Pos),(∀t∈ts,∀e,i6 cc t e=true->PT X e (lD X.K (cT G t)))->kK cc ts es=true->es≠[]->PW X (.BoolOp .Or es pos) (lD X.K (ef G ts))
 | [],[],_,_,_,h=>absurd rfl h
 | [],_::_,_,_,h,_=>by cases h
 | _::_,[],_,_,h,_=>by cases h
 | c::cs,e::es,pos,ih,h,_=>by
  have h':(i6 cc c e&&kK cc cs es)=true:=h;simp only[aA]at h';have he:=ih c cD e h'.1
  cases es with
  | nil =>
   cases cs with
   | cons _ _=>cases h'.2
   | nil =>
    refine Pc (Fy he) λσ H Q q=>?_;obtain⟨ads,M,ρ,s,q⟩:=q;refine⟨ads,M,ρ,s,?_⟩;simp only[iZ,gL]at q
    cases hq:cT G c ρ M with
    | ok w M1=>rw[hq]at q;exact q
    | err _ _=>rw[hq]at q;exact q
    | aa=>rw[hq]at q;exact q
  | cons e2 es =>
   cases cs with
   | nil=>cases h'.2
   | cons c2 cs =>
    have hr:=Ed (c2::cs) (e2::es) pos (λc hc=>ih c (du _ hc)) h'.2 (by simp);refine Pc (LF he hr) λσ H Q q=>?_;obtain⟨ads,M,ρ,s,q⟩:=q
    have q:zH X.K ads H Q ((cT G c ρ M).bind λx M=>match c2::cs,x with
     | [],x=>.ok x M
     | _,false=>ef G (c2::cs) ρ M
     | _,true=>.ok true M):=by unfold ef at q;exact q
    refine ny s q λw M1 H1 ae s1 q1=>?_
    cases w with
    | true=>rw[aG rfl];exact q1 H1 ae (ay.refl _ _) s1.mem
    | false=>rw[aR (by simp)];exact⟨ae,M1,ρ,s1,q1⟩
theorem Nk{t:dv}{a b:C}{c x y:Expr}{pos:Pos}(ht:PT X c (lD X.K (cT G t)))(ha:PE X x (tE X.K (ev G a)))(hb:PE X y (tE X.K (ev G b))):PE X (.IfExp c x y pos) (tE X.K (ev G (.ite t a b))):=by
 refine eK (wK ht ha hb) λσ H Q q=>?_;obtain⟨ads,M,ρ,s,q⟩:=q;refine⟨ads,M,ρ,s,?_⟩;simp only[xZ]at q
 cases hq:cT G t ρ M with
 | ok w M1 =>
  rw[hq]at q;intro H1 ae g1 m1;have q:bg X.K ads H Q (if w then ev G a ρ M1 else ev G b ρ M1):=q;have q:=q.shift g1 s.mem m1
  cases w with
  | true=>rw[aG rfl]at q⊢;exact⟨ae,M1,ρ,s.grow g1 m1,q⟩
  | false=>rw[aR (by simp)]at q⊢;exact⟨ae,M1,ρ,s.grow g1 m1,q⟩
 | err _ _=>rw[hq]at q;exact q
 | aa=>rw[hq]at q;exact q
end
end
section
variable [EX]
section
variable {kk:Nat} {X:Cx} {cc:CC} {G:bf}
theorem kM{b:Expr}(h:fV b=true):rB b:=by
 intro o i;cases b<;>first | rfl | exact absurd (show false=true from h) aD
theorem Nl{a b:C}{e i:Expr}{pos:Pos}(g:dm kk X cc G)(hs:fV i=true)(ha:PE X e (tE X.K (ev G a)))(hb:PE X i (tE X.K (ev G b))):PE X (.Subscript e i pos) (tE X.K (ev G (.sub a b))):=by
 have Rt:=g.rh.un;refine eK (Mj (GP ∅) ha hb (kM hs)) λσ H Q q=>?_;exact two (λm r1 r2 h=>⟨_,_,_,_,m,r1,r2,h⟩) q
def Vo(K:PySem.W.Frag)(ads:List Addr)(H:Hp)(Q:Option Int->Hp->Prop):bp (Option Int)->Prop
 | .ok o M=>∀H' ao,ay ads ao H H'->aJ K ao H' M->Q o H'
 | .err x M=>EX.post K ads H x M
 | .aa=>False
def tO(K:PySem.W.Frag)(o:En->ab->bp (Option Int)):TO:=λσ H Q=>∃ads M ρ,SR K ads M ρ σ H/\Vo K ads H Q (o ρ M)
theorem G8:PO X none (tO X.K (nN G none)):=λpins s σ H Q I q=>Az pins s σ H Q I (by
 obtain⟨ads,M,ρ,s,q⟩:=q;exact q H ads (ay.refl _ _) s.mem)
theorem G9{c:C}{e:Expr}(h:PE X e (tE X.K (ev G c))):PO X (some e) (tO X.K (nN G (some c))):=λpins s σ H Q I q=>AA h pins s σ H Q I (by
 obtain⟨ads,M,ρ,s,q⟩:=q;refine⟨ads,M,ρ,s,?_⟩;simp only[kr,ku]at q
 cases hq:ev G c ρ M with
 | ok w M1 =>
  rw[hq]at q;intro v H1 ae g1 m1 r1;rcases w with⟨_|_ | i | _|_|_⟩|_<;>first | exact q.elim | skip
  exact⟨i,aP r1,q H1 ae g1 m1⟩
 | err _ _=>rw[hq]at q;exact q
 | aa=>rw[hq]at q;exact q)
theorem Nm{a:C}{lo hi:Option C}{e:Expr}{l h:Option Expr}{pos p2:Pos}(ha:PE X e (tE X.K (ev G a)))(hl:PO X l (tO X.K (nN G lo)))(hh:PO X h (tO X.K (nN G hi))):PE X (.Subscript e (.Slice l h none p2) pos) (tE X.K (ev G (.rM a lo hi))):=by
 refine eK (xv GQ ha hl hh) λσ H Q q=>?_;obtain⟨ads,M,ρ,s,q⟩:=q;refine bQ s q λw M1 v H1 ae s1 i0 q1=>⟨ae,M1,ρ,s1,?_⟩
 cases hq:nN G lo ρ M1 with
 | ok o1 M2 =>
  rw[hq]at q1;have q1:bg X.K ae H1 Q ((nN G hi ρ M2).bind λh M=>kh w o1 h M):=q1;intro H2 aO g2 m2;have s2:=s1.grow g2 m2;refine⟨aO,M2,ρ,s2,?_⟩
  cases uK:nN G hi ρ M2 with
  | ok o2 M3 =>
   rw[uK]at q1;intro H3 cY g3 m3;exact⟨cY,M3,w,m3,g3.rw (g2.rw i0),bg.shift (o:=kh w o1 o2 M3) q1 (g2.trans g3) s1.mem m3⟩
  | err _ _=>rw[uK]at q1;exact EX.shift (show EX.post X.K ae H1 _ _ from q1) g2
  | aa=>rw[uK]at q1;exact q1
 | err _ _=>rw[hq]at q1;exact q1
 | aa=>rw[hq]at q1;exact q1
theorem kO:∀(cs:List C)(ρ:En)(M:ab)(ds:List D)(M':ab),a9 G cs ρ M=.ok ds M'->ds.length=cs.length
 | [],ρ,M,ds,M',h=>by cases h;rfl
 | c::cs,ρ,M,ds,M',h=>by
  simp only[eO,dM]at h
  cases h1:(ev G c ρ M).bind own with
  | ok d M1 =>
   rw[h1]at h;simp only[bp.bind]at h
   cases h2:a9 G cs ρ M1 with
   | ok es M2=>rw[h2]at h;cases h;simp[kO cs ρ M1 es _ h2]
   | err _ _=>rw[h2]at h;cases h
   | aa=>rw[h2]at h;cases h
  | err _ _=>rw[h1]at h;cases h
  | aa=>rw[h1]at h;cases h
theorem d3{cs:List C}{es:List Expr}(h:bE cc cs es=true)(env:Env)(pos:Pos):(backTo pos (starEach es env)).any (·.1)=false:=by
 have:∀(cs:List C)(es:List Expr),bE cc cs es=true->(starEach es env).any (·.1)=false:=by
  intro cs
  induction cs with
  | nil=>intro es h;cases es with
   | nil=>rfl
   | cons _ _=>cases h
  | cons c cs ih =>
   intro es h
   cases es with
   | nil=>cases h
   | cons e es =>
    have h':(az e&&bb cc c e&&bE cc cs es)=true:=h;simp only[aA]at h';rw[a0 h'.1.1,vp,ih es h'.2];rfl
 have e:=this cs es h;unfold backTo;simp only[List.any_map];exact e
theorem G_{f:Nat}{cs:List C}{x:Str}{e:Expr}{es:List Expr}{p pos:Pos}(g:Good kk X cc G)(hf:cc.fs[f]?=some (x,cs.length))(hg:glob cc x=true)(hp:aY x=true)(hc:bE cc cs (e::es)=true)(ha:PA X (e::es) (zI X.K (a9 G cs))):PE X (.Call (.Name x p) (e::es) [] pos) (tE X.K (ev G (.call f cs))):=by
 obtain⟨fa,fd,ps,F,hm,hk,hb⟩:=g.fns f x _ hf;obtain⟨E,hE,im⟩:=g.ex
 have lW:az e=true/\bE cc cs.tail es=true:=by
  cases cs with
  | nil=>cases hc
  | cons c cs =>
   have h':(az e&&bb cc c e&&bE cc cs es)=true:=hc;simp only[aA]at h';exact⟨h'.1.1,h'.2⟩
 refine eK (Ap (pos:=pos) (p:=p) (E:=E) F g.room (g.gl hg) hm hk hb .nil hE ha (cI hp).1 (a0 lW.1 es X.env) (d3 lW.2 X.env pos)) λσ H Q q=>?_;obtain⟨ads,M,ρ,s,q⟩:=q;refine⟨ads,M,ρ,s,?_⟩;simp only[rP]at q
 cases hq:a9 G cs ρ M with
 | ok ds M1 =>
  rw[hq]at q;intro vs H1 ae g1 m1 r1;refine⟨ae,M1,ds,m1,?_,kO cs ρ M ds M1 hq,bg.imp im (bg.shift (o:=G f ds M1) q g1 s.mem m1)⟩;rw[z9];exact r1
 | err _ _=>rw[hq]at q;exact q
 | aa=>rw[hq]at q;exact q
theorem Ha{E:Value->Shared->Prop}{pins:List (Addr×Obj)}{s:Shared}{σ:L2.St}{H:Hp}{i:Nat}{x:Str}{v:V}{pos:Pos}{Q:Value->Shared->Prop}(I:Inv X pins σ H s)(hN:X.N[i]?=some x)(hv:OO X.env.scope x)(e:σ[i]?=some (some v))(h:∀u,RelV v u->Q u s) (hd:(x==("__debug__" : Str))=false) (zD:(x==("__classdict__" : Str))=false):wpAny (model X.prog X.w) X.A (eval (.Name x pos) X.env) Q E s:=by
 obtain⟨m,hn,hl⟩:=I.loc;obtain⟨u,r,l⟩:=hl i x v hN e hv;have fin:=h u r;rcases l with⟨hk,hm⟩|⟨hk,c,hc,j2⟩
 ·exact tR (wpAny_loadName_local I.ok.kind hk hn hm fin) hd
 ·rcases hk with hk | hk
  ·exact tR (wpAny_loadName_cell I.ok.kind hk hc j2 fin) hd
  ·exact tR (wpAny_loadName_free I.ok.kind hk hc j2 fin zD) hd
theorem Nn{y:Str}{a:Addr}{p:Pos}(g:Good kk X cc G)(hg:glob cc y=true)(hp:aY y=true)(h:(y,a)∈cc.xs.fa):PE X (.Name y p) (tE X.K (ev G (.oK y a))):=by
 refine eK (jH (v:=.ref a) (u:=.ref a) (g.gl hg) (g.Pb y a h) rfl (cI hp).1) λσ H Q q=>?_;obtain⟨ads,M,ρ,s,q⟩:=q;rw[GD]at q;exact bg.plain q s.mem (by unfold RD;rfl)
theorem Np{x v:Str}{pos:Pos}(g:Good kk X cc G)(hg:glob cc x=true)(hp:aY x=true)(h:(x,v)∈cc.xs.gt):PE X (.Name x pos) (tE X.K (ev G (.qj x v))):=by
 obtain⟨t,ht⟩:=g.qj x v h;refine eK (jH (v:=.str v) (g.gl hg) ht ⟨t,rfl⟩ (cI hp).1) λσ H Q q=>?_;obtain⟨ads,M,ρ,s,q⟩:=q;rw[GI]at q;exact bg.plain q s.mem (by unfold RD;rfl)
theorem Hb{ρ:En}{i f:Nat}{tb:List (Addr×Nat)}(h:uC ρ i tb=some f):∃a,ρ[i]?=some (some (.fn a))/\tb.lookup a=some f:=by
 unfold uC at h
 cases e:ρ[i]? with
 | none=>rw[e]at h;cases h
 | some o =>
  rw[e]at h
  cases o with
  | none=>cases h
  | some d =>
   cases d<;>first | cases h | skip
   exact⟨_,rfl,h⟩
theorem rZ{a f:Nat}:∀{tb:List (Addr×Nat)},tb.lookup a=some f->(a,f)∈tb
 | [],h=>by cases h
 | (b,g)::tb,h=>by
  rw[d6]at h
  cases e:a==b with
  | true =>
   rw[e]at h;cases h;rw[dQ.mp e];exact cD
  | false =>
   rw[e]at h;exact du _ (rZ h)
theorem Bt{i:Nat}{tb:List (Addr×Nat)}{cs:List C}{x:Str}{e:Expr}{es:List Expr}{p pos:Pos}(g:Good kk X cc G)(hN:cc.N[i]?=some x)(hv:Bk cc x=true)(hp:aY x=true)(hc:bE cc cs (e::es)=true)(ht:tb.all (Rp cc cs.length)=true)(ha:PA X (e::es) (zI X.K (a9 G cs))):PE X (.Call (.Name x p) (e::es) [] pos) (tE X.K (ev G (.cM i tb cs))):=by
 intro pins s0 σ H Q I q;obtain⟨ads,M,ρ,s,q⟩:=q;rw[oR]at q
 cases hf:uC ρ i tb with
 | none=>rw[hf]at q;exact q.elim
 | some f =>
  rw[hf]at q;have q:bg X.K ads H Q ((a9 G cs ρ M).bind λds M=>G f ds M):=q;obtain⟨a,ea,et⟩:=Hb hf;have hm:=jT.mp ht (a,f) (rZ et);unfold Rp at hm
  cases hy:cc.fs[f]? with
  | none=>rw[hy]at hm;cases hm
  | some yk =>
   obtain⟨y,k⟩:=yk;rw[hy]at hm;have hm:(k==cs.length&&cc.xs.fa.contains (y,a))=true:=hm;rw[aA,dQ]at hm;obtain⟨rfl,Vp⟩:=hm;have Vq:=g.Pb y a (va.mp Vp);obtain⟨fa,fd,ps,F,Pf,hk,hb⟩:=g.fns f y _ hy
   obtain rfl:fa=a:=by
    rw[Vq]at Pf;have:=cx Pf;cases this;rfl
   obtain⟨E,hE,im⟩:=g.ex
   have lW:az e=true/\bE cc cs.tail es=true:=by
    cases cs with
    | nil=>cases hc
    | cons c cs =>
     have h':(az e&&bb cc c e&&bE cc cs es)=true:=hc;simp only[aA]at h';exact⟨h'.1.1,h'.2⟩
   obtain⟨v,Rr,r⟩:=s.en i _ ea;obtain rfl:v=.ref fa:=by unfold RD at r;exact r
   obtain⟨d1,d2,_⟩:=cI hp;refine zT (Ha I (by rw[g.N];exact hN) (g.Bk hv) Rr (λu ru=>?_) d1 d2);obtain rfl:u=Value.ref fa:=ru;refine PySem.W.callWith_K (h₀:=X.base) I.ok.mod.ON hk (bP (ha pos pins s0 σ H (λvs H1=>u6 X.K cs.length (G f) (vs++[]) H1 Q E) I ⟨ads,M,ρ,s,?_⟩) λus s1 ⟨vs,H1,I1,r,q⟩=>⟨I1.g7,xb F g.room hb .nil hE I1 r q⟩) (a0 lW.1 es X.env) (d3 lW.2 X.env pos)
   cases hq:a9 G cs ρ M with
   | ok ds M1 =>
    rw[hq]at q;intro vs H1 ae g1 m1 r1;refine⟨ae,M1,ds,m1,?_,kO cs ρ M ds M1 hq,bg.imp im (bg.shift (o:=G f ds M1) q g1 s.mem m1)⟩;rw[z9];exact r1
   | err _ _=>rw[hq]at q;exact q
   | aa=>rw[hq]at q;exact q
def Nq(K:PySem.W.Frag)(ads:List Addr)(H:Hp)(Q:List V->Hp->Prop):bp (List W)->Prop
 | .ok ws M=>∀vs H' ao,ay ads ao H H'->aJ K ao H' M->zJ K ao H' ws vs->Q vs H'
 | .err x M=>EX.post K ads H x M
 | .aa=>False
def Hc(K:PySem.W.Frag)(o:En->ab->bp (List W)):TA:=λσ H Q=>∃ads M ρ,SR K ads M ρ σ H/\Nq K ads H Q (o ρ M)
theorem r6:PA X [] (Hc X.K (cq G [])):=Pd fC λσ H Q q=>by
 obtain⟨ads,M,ρ,s,q⟩:=q;exact q [] H ads (ay.refl _ _) s.mem rfl
theorem nz{c:C}{cs:List C}{e:Expr}{es:List Expr}(hs:az e=true)(ha:PE X e (tE X.K (ev G c)))(hr:PA X es (Hc X.K (cq G cs))):PA X (e::es) (Hc X.K (cq G (c::cs))):=by
 refine Pd (cm ha hr (a0 hs es X.env)) λσ H Q q=>?_;obtain⟨ads,M,ρ,s,q⟩:=q;refine⟨ads,M,ρ,s,?_⟩;simp only[eP,dN]at q
 cases hq:ev G c ρ M with
 | ok w M1 =>
  rw[hq]at q;intro v H1 ae g1 m1 r1;refine⟨ae,M1,ρ,s.grow g1 m1,?_⟩;have q:Nq X.K ads H Q ((cq G cs ρ M1).bind λds M=>.ok (w::ds) M):=q
  cases yr:cq G cs ρ M1 with
  | ok ds M3 =>
   rw[yr]at q;intro vs H3 cY g3 m3 r3;exact q (v::vs) H3 cY (g1.trans g3) m3 ⟨v,vs,rfl,g3.rw r1.rw,r3⟩
  | err _ _=>rw[yr]at q;exact EX.shift (show EX.post X.K ads H _ _ from q) g1
  | aa=>rw[yr]at q;exact q
 | err _ _=>rw[hq]at q;exact q
 | aa=>rw[hq]at q;exact q
theorem i7{b:Bi}{cs:List C}{σ:L2.St}{H:Hp}{Q:VK}(q:tE X.K (ev G (.bi b cs)) σ H Q):Qt (D4 X.K b) (Hc X.K (cq G cs)) σ H Q:=by
 obtain⟨ads,M,ρ,s,q⟩:=q;refine⟨ads,M,ρ,s,?_⟩;simp only[x5]at q
 cases hq:cq G cs ρ M with
 | ok ws M1 =>
  rw[hq]at q;intro vs H1 ae g1 m1 r1;exact⟨ae,M1,ws,m1,r1,bg.shift (o:=ic b ws M1) q g1 s.mem m1⟩
 | err _ _=>rw[hq]at q;exact q
 | aa=>rw[hq]at q;exact q
theorem Ru{b:Bi}{cs:List C}{x:Str}{e:Expr}{es:List Expr}{p pos:Pos}(g:Good kk X cc G)(hb:M8 b=true)(hx:x=yj b)(hg:glob cc x=true)(hs:az e=true)(hc:bE cc cs.tail es=true)(ha:PA X (e::es) (Hc X.K (cq G cs))):PE X (.Call (.Name x p) (e::es) [] pos) (tE X.K (ev G (.bi b cs))):=by
 have pN:=g.gl hg;have lW:=a0 hs es X.env;have mR:=d3 hc X.env pos;have hm:X.mg x=none:=g.blt x (by subst hx;cases b<;>first | (show _∈bI;decide +kernel) | (cases hb));subst hx
 cases b with
 | len=>exact eK (g8 GR pN hm boot_len ha ⋯ ⋯ lW mR) λσ H Q q=>i7 q
 | max2=>cases hb
 | min2=>cases hb
 | rJ=>cases hb
 | jB=>exact eK (fS GV pN hm ⋯ ha ⋯ ⋯ lW mR) λσ H Q q=>i7 q
 | list1=>exact eK (fS Bh pN hm ⋯ ha ⋯ ⋯ lW mR) λσ H Q q=>i7 q
 | tuple1=>exact eK (fS ye pN hm ⋯ ha ⋯ ⋯ lW mR) λσ H Q q=>i7 q
 | rK=>cases hb
 | all1=>exact eK (g8 (GU g.calm) pN hm boot_all ha ⋯ ⋯ lW mR) λσ H Q q=>i7 q
 | AU=>cases hb
 | iT t=>cases hb
 | str1=>exact eK (fS GW pN hm ⋯ ha ⋯ ⋯ lW mR) λσ H Q q=>i7 q
 | rL=>cases hb
 | min1=>cases hb
 | AV=>cases hb
theorem Hd{y:Str}{T:String}{pos:Pos}(hg:Gl X y)(hm:X.mg y=none)(hv:bootBuiltins y=some (.type T)) (hn:y≠ "__name__") (hd:(y==("__debug__" : Str))=false):PE X (.Name y pos) (tC (.ty T)) :=
 Ae hg hm hv rfl hn hd
theorem Nr{t:Ty}{c:C}{x y:Str}{e:Expr}{p py pos:Pos}(g:dm kk X cc G) (hx:x = "isinstance") (Rv:glob cc x=true) (hy:y=Str.ofString (jD t)) (Rw:glob cc y=true) (ht:t≠.none) (hs:az e=true) (ha:PE X e (tE X.K (ev G c))):PE X (.Call (.Name x p) [e,.Name y py] [] pos) (tE X.K (ev G (.bi (.iT t) [c]))):=by
 have Rx:X.mg x=none:=g.blt x (by subst hx;show _∈bI;decide +kernel);have Ry:X.mg y=none:=g.blt y (by subst hy;cases t<;>first | exact absurd rfl ht | (show _∈bI;decide +kernel))
 have Vr:PE X (.Name y py) (tC (.ty (jD t))):=by
  subst hy;cases t<;>first | exact absurd rfl ht | exact Hd (g.gl Rw) Ry ⋯ ⋯ ⋯
 have pN:=g.gl Rv;subst hx;refine eK (g8 (GX t) pN Rx boot_isinstance (cm ha (cm Vr fC) (a0 hs _ X.env)) ⋯ ⋯ (a0 hs _ X.env) rfl) λσ H Q q=>?_;obtain⟨ads,M,ρ,s,q⟩:=q;refine⟨ads,M,ρ,s,?_⟩;simp only[x5,eP,dN]at q
 cases hq:ev G c ρ M with
 | ok w M1 =>
  rw[hq]at q;intro v H1 ae g1 m1 r1;exact⟨v,rfl,ae,M1,[w],m1,⟨v,[],rfl,r1.rw,rfl⟩,bg.shift (o:=ic (.iT t) [w] M1) q g1 s.mem m1⟩
 | err _ _=>rw[hq]at q;exact q
 | aa=>rw[hq]at q;exact q
theorem Bu(K:PySem.W.Frag):∀g:Ty,PySem.W.kitAny K (.type (jD g)) [.type "tuple",.type "list"]=some (decide (g=.tuple)||decide (g=.list)):=by
 intro g;cases g<;>kernel_rfl
theorem yv{pins:List (Addr×Obj)}{σ:L2.St}{H:Hp}{s:Shared}{v:V}{u:Value}{g:Ty}{tp:Addr}{Q:Value->Shared->Prop}{A:Around}{E:Value->Shared->Prop}(I:Inv X pins σ H s)(rx:RelV v u)(ty:gF X.K H v (.type (jD g))) (ht:H tp=some (.tup [.ty "tuple",.ty "list"])) (h:∀tk,Q (.bool (decide (g=.tuple)||decide (g=.list))) {s with toks:=tk}):wpAny (model X.prog X.w) A (call (.builtin "isinstance") [u,.ref tp]) Q E s:=by
 obtain⟨_,ax,r,pl⟩:=(show bh X.prog X.w H s.heap tp (.tup [.ty "tuple",.ty "list"]) from I.bc tp _ ht)
 obtain rfl:ax=[.type "tuple",.type "list"]:=by
  cases r with
  | cons r1 t=>cases t with
   | cons r2 t=>cases t;rw[(show _=Value.type "tuple" from r1),(show _=Value.type "list" from r2)]
 obtain⟨o,h1,h2,n,h3⟩:=pl
 have h4:s.heap.get? tp=some ⟨.type "tuple",o.dict,.seq [Value.type "tuple",Value.type "list"].toArray n,o.slots⟩:=by
  rw[h1];obtain⟨a,b,c,d⟩:=o;obtain rfl:a=.type "tuple" := h2;obtain rfl:c=_:=h3;rfl
 have e:=Bu X.K g;revert e;generalize hT:Value.type (jD g)=T at ty;intro e
 cases ty with
 | br=>cases (show u=Value.none from rx);exact mE PySem.W.kitx_none I.g7 True.intro h4 e (λz=>nomatch z) h
 | bl y=>cases (show u=Value.bool y from rx);exact mE PySem.W.kitx_bool I.g7 True.intro h4 e (λz=>nomatch z) h
 | int i=>obtain⟨t,q⟩:=(show ∃t,u=Value.int i t from rx);cases q;exact mE PySem.W.kitx_int I.g7 True.intro h4 e (λz=>nomatch z) h
 | str y=>obtain⟨t,q⟩:=(show ∃t,u=Value.str y t from rx);cases q;exact mE PySem.W.kitx_str I.g7 True.intro h4 e (λz=>nomatch z) h
 | @lst a xs ea =>
  cases (show u=Value.ref a from rx);obtain⟨_,_,n,_,h1⟩:=(show bh X.prog X.w H s.heap a (.lst xs) from I.bc a _ ea);exact mE zU I.g7 ⟨_,h1,rfl⟩ h4 e (λz=>nomatch z) h
 | @eX a ob xs ea =>
  cases (show u=Value.ref a from rx);obtain⟨_,_,_,n,_,h1⟩:=(show bh X.prog X.w H s.heap a (.eX ob (.lst xs)) from I.bc a _ ea);exact mE zU I.g7 ⟨_,h1,rfl⟩ h4 e (λz=>nomatch z) h
 | @tup a xs ea =>
  cases (show u=Value.ref a from rx);obtain⟨_,_,_,p⟩:=(show bh X.prog X.w H s.heap a (.tup xs) from I.bc a _ ea);obtain⟨o,h1,h2,_⟩:=p;exact mE PySem.W.kitx_tuple I.g7 ⟨o,h1,h2⟩ h4 e (λz=>nomatch z) h
 | @dK a ak ea =>
  cases (show u=Value.ref a from rx);obtain⟨_,_,vs,_,p⟩:=(show bh X.prog X.w H s.heap a (.dK ak) from I.bc a _ ea);obtain⟨o,es,ep,h1,h2,_⟩:=p;exact mE zV I.g7 ⟨o,h1,h2.1⟩ h4 e (λz=>nomatch z) h
 | @dT a ak ea =>
  cases (show u=Value.ref a from rx);obtain⟨_,_,xs,_,o,es,ep,h1,h2,_⟩:=(show bh X.prog X.w H s.heap a (.dT ak) from I.bc a _ ea);exact mE zV I.g7 ⟨o,h1,h2.1⟩ h4 e (λz=>nomatch z) h
 | Fp y=>exact absurd (Value.type.inj hT) (by cases g<;>decide)
 | ins ea cl ha hn Qo hm=>cases hT
theorem yw:dU X (.builtin "isinstance") (λxs H Q=>∃v tp g,xs=[v,.ref tp]/\gF X.K H v (.type (jD g))/\H tp=some (.tup [.ty "tuple",.ty "list"])/\Q (.bl (decide (g=.tuple)||decide (g=.list))) H):=by
 intro pins s σ H xs us Q I r h;obtain⟨v,tp,g,rfl,ty,ht,q⟩:=h;obtain⟨u,u2,rfl,r1,r2⟩:=vals2 r;obtain rfl:u2=Value.ref tp:=r2;exact yv I r1 ty ht λtk=>⟨.bl _,H,I.tok tk,rfl,q⟩
theorem Nt{a:C}{x y z:Str}{e:Expr}{kt:Nat}{p py pz pt pos:Pos}(g:dm kk X cc G) (hx:x = "isinstance") (Rv:glob cc x=true) (hy:y = "tuple") (Rw:glob cc y=true) (hz:z = "list") (Vs:glob cc z=true) (hs:az e=true) (ha:PE X e (tE X.K (ev G a))):PE X (.Call (.Name x p) [e,.Tuple [.Name y py,.Name z pz] kt pt] [] pos) (tE X.K (ev G (.u4 a))):=by
 have Rx:X.mg x=none:=g.blt x (by subst hx;show _∈bI;decide +kernel);have Ry:X.mg y=none:=g.blt y (by subst hy;show _∈bI;decide +kernel);have Vt:X.mg z=none:=g.blt z (by subst hz;show _∈bI;decide +kernel);have pN:=g.gl Rv;have Vu:PE X (.Name y py) (tC (.ty "tuple")):=by subst hy;exact Hd (g.gl Rw) Ry ⋯ ⋯ ⋯
 have Vv:PE X (.Name z pz) (tC (.ty "list")):=by subst hz;exact Hd (g.gl Vs) Vt ⋯ ⋯ ⋯
 subst hx;refine eK (g8 yw pN Rx boot_isinstance (cm ha (cm (w8 (cm Vu (cm Vv fC) rfl)) fC rfl) (a0 hs _ X.env)) ⋯ ⋯ (a0 hs _ X.env) rfl) λσ H Q q=>?_;obtain⟨ads,M,ρ,s,q⟩:=q;rw[x_]at q;refine bQ s q λw M1 v H1 ae s1 i0 q1=>?_;have q1:bg X.K ae H1 Q (oP w M1):=q1;unfold oP at q1
 cases ht:qk M1 w with
 | none=>rw[ht]at q1;exact q1.elim
 | some gt =>
  rw[ht]at q1;refine⟨(show 2<=sizeLine by decide),λtp Tq=>?_⟩;have g2:=ay.e9 (o:=.tup [.ty "tuple",.ty "list"]) s1.mem Tq;have m2:=s1.mem.e9 (o:=.tup [.ty "tuple",.ty "list"]) Tq;exact⟨v,tp,gt,rfl,yf m2 (g2.rw i0) ht,bx,bg.plain (bg.shift (o:=.ok (.d (.bl _)) M1) q1 g2 s1.mem m2) m2 (gv _)⟩
theorem fT{e:Expr}(h:d0 e=true)(n:Str)(env:Env)(wh:Sem Value):attributeBase e n env wh=wh:=by
 cases e<;>first | rfl | skip
 rename_i f args dr pos
 cases f<;>first | rfl | skip
 cases args<;>first | rfl | skip
 cases dr<;>first | rfl | exact absurd (show false=true from h) aD
theorem He{m:Me}{o:C}{cs:List C}{σ:L2.St}{H:Hp}{Q:VK}(q:tE X.K (ev G (.me m o cs)) σ H Q):QC X.K "list" (Rl X.K m) (tE X.K (ev G o)) (zI X.K (a9 G cs)) σ H Q:=by
 obtain⟨ads,M,ρ,s,q⟩:=q;have q:bg X.K ads H Q ((ev G o ρ M).bind λx M=>if (dH M x).isSome then (a9 G cs ρ M).bind λds M=>u5 m x ds M else .aa):=by simp only[x6]at q;exact q
 refine bQ s q λw M1 v H1 ae s1 i0 q1=>?_;split at q1
 ·rename_i hs
  obtain⟨es,he⟩:=tm.mp hs;obtain⟨a,xs,rfl,rd,ha⟩:=kx s1.mem i0 he;refine⟨.inl ⟨rfl,xs,d5.of ha⟩,ae,M1,ρ,s1,?_⟩
  cases hq:a9 G cs ρ M1 with
  | ok ds M2 =>
   rw[hq]at q1;intro vs H2 aO g2 m2 r2;exact⟨aO,M2,w,ds,m2,g2.rw i0,r2,bg.shift (o:=u5 m w ds M2) q1 g2 s1.mem m2⟩
  | err _ _=>rw[hq]at q1;exact q1
  | aa=>rw[hq]at q1;exact q1
 ·exact q1.elim
theorem Bv{m:Me}{o:C}{σ:L2.St}{H:Hp}{Q:VK}(q:tE X.K (ev G (.me m o [])) σ H Q):Ml X.K "list" (Rl X.K m) (tE X.K (ev G o)) σ H Q:=by
 obtain⟨ads,M,ρ,s,q⟩:=q;have q:bg X.K ads H Q ((ev G o ρ M).bind λx M=>if (dH M x).isSome then (a9 G [] ρ M).bind λds M=>u5 m x ds M else .aa):=by simp only[x6]at q;exact q
 refine bQ s q λw M1 v H1 ae s1 i0 q1=>?_;split at q1
 ·rename_i hs
  obtain⟨es,he⟩:=tm.mp hs;obtain⟨a,xs,rfl,rd,ha⟩:=kx s1.mem i0 he;exact⟨.inl ⟨rfl,xs,d5.of ha⟩,ae,M1,w,[],s1.mem,i0,(by unfold aF;rfl),q1⟩
 ·exact q1.elim
theorem qC{cs:List C}{es:List Expr}(h:bE cc cs es=true)(hl:es.length<20)(env:Env)(hZ:Pos):((backTo hZ (starEach es env)).all (λx=>!x.1)&&(backToKw hZ (keywordEach [] env)).all (λx=>x.1.isSome)&&decide (es.length+([]:List Keyword).length+(if ([]:List Keyword).isEmpty then 0 else 1)<30))=true:=by
 have h1:=d3 h env hZ
 have h2:(backTo hZ (starEach es env)).all (λx=>!x.1)=true:=by
  rw[jT];intro x hx;rw[ET]at h1;have:=h1 x hx;simpa using this
 rw[h2];simp[keywordEach,backToKw];omega
theorem r8:∀{xs:List Str}{ax:List Value},aE (xs.map V.str) ax->∃l:List (Str×Tok),ax=strValues l/\l.map (·.1)=xs
 | [],ax,r=>by cases r;exact⟨[],rfl,rfl⟩
 | x::xs,ax,r=>by
  cases r with
  | cons h r =>
   obtain⟨t,rfl⟩:=h;obtain⟨l,rfl,e⟩:=r8 r;exact⟨(x,t)::l,rfl,jt (x::·) e⟩
theorem Bw:Jf X "str.join" (λx xs H Q=>∃cC a ss,x=.str cC/\xs=[.ref a]/\H a=some (.lst (ss.map V.str))/\Builtin.Str.tooLong (ss.toArray.foldl (λa b=>a+b.length+cC.length) 0)=false/\(jl cC ss).length<=sizeLine/\Q (.str (jl cC ss)) H):=by
 intro pins s σ H x xs v us Q I rx rv h;obtain⟨cC,a,ss,rfl,rfl,ha,hl,hz,q⟩:=h;obtain⟨t,rfl⟩:=rx;obtain⟨u,rfl,ru⟩:=vals1 rv;obtain rfl:u=Value.ref a:=ru;obtain⟨_,ax,n,r,e⟩:=I.bc a _ ha;obtain⟨l,rfl,rfl⟩:=r8 r;refine jX F.slot_str_join rfl F.entry_str_join (F.args_str_join_2 _ _) (meets_str_join_list cC t a l hl) ⟨⟨_,e,rfl,n,rfl⟩,?_⟩
 have fin:∀{k:Made},k=joinMade cC l->(∀p,l≠[p])->(Made.str (Builtin.Str.glued cC (l.map (·.1)))).post (λv s'=>wants (EP X pins σ Q) X.xe (.ok (.ret v)) s') s:=λ_ hn=>by
  have ej:jl cC (l.map (·.1))=Builtin.Str.glued cC (l.map (·.1)):=by
   rcases l with _|⟨p,_|⟨p2,l⟩⟩
   ·rfl
   ·exact absurd rfl (hn p)
   ·rfl
  rw[ej]at hz q;rw[Made.post.eq_3];exact⟨hz,.str _,H,I.tok _,⟨_,rfl⟩,q⟩
 rcases l with _|⟨p,_|⟨p2,l⟩⟩
 ·exact fin rfl λp=>by intro z;cases z
 ·exact⟨.str _,H,I,⟨_,rfl⟩,q⟩
 ·exact fin rfl λp=>by intro z;cases z
theorem r9{K:PySem.W.Frag}{ads:List Addr}{H:Hp}:∀{ds:List D}{ss:List Str}{xs:List V},kj ds=some ss->aF K ads H ds xs->xs=ss.map V.str
 | [],ss,xs,e,r=>by
  cases e;unfold aF at r;exact r
 | d::ds,ss,xs,e,r=>by
  cases d<;>first | cases e | skip
  rename_i x
  have e:(kj ds).map (x::·)=some ss:=e;obtain⟨XB,e',rfl⟩:=EJ.mp e;unfold aF at r;obtain⟨v,r',rfl,h1,h2⟩:=r;unfold RD at h1;rw[h1,r9 e' h2];rfl
theorem Nu{cC:Str}{a:C}{o x:Expr}{n:Str}{ap cp:Pos} (hn:n = "join") (hl:(ap.endLine==cp.line)=true) (h0:d0 o=true) (ho:gM (.str cC) o=true) (hx:az x=true) (Vw:bb cc a x=true) (ha:PE X x (tE X.K (ev G a))):PE X (.Call (.Attribute o n ap) [x] [] cp) (tE X.K (ev G (.qi cC a))):=by
 have Pg:=fT h0 n X.env (eval o X.env)
 have hc:bE cc [a] [x]=true:=by
  show(az x&&bb cc a x&&true)=true;rw[hx,Vw];rfl
 have oB:=qC hc (show 1<20 by decide) X.env cp;subst hn;have hs:PE X o (tE X.K (ev G (.a_ (.str cC)))):=D9 (cc:=cc) ho;refine eK (rC F.plainAttrs_str F.slot_str_join F.type_str_join Bw hs (nz hx ha r6) Pg oB hl (a0 hx [] X.env) rfl) λσ H Q q=>?_;obtain⟨ads,M,ρ,s,q⟩:=q
 have q:bg X.K ads H Q ((ev G (.a_ (.str cC)) ρ M).bind λx M=>match x with
  | .d (.str z)=>(ev G a ρ M).bind λy M=>km z y M
  | _=>.aa):=q
 refine bQ s q λw M1 v H1 ae s1 i0 q1=>?_;rcases w with⟨_|_|_ | z | _|_|_⟩|_<;>first | exact q1.elim | skip
 have e1:=bz i0;subst e1;refine⟨rfl,ae,M1,ρ,s1,?_⟩;simp only[eP,dN];have q1:bg X.K ae H1 Q ((ev G a ρ M1).bind λy M=>km z y M):=q1
 cases hq:ev G a ρ M1 with
 | ok y M2 =>
  rw[hq]at q1;intro vs H2 aO g2 m2 r2;obtain⟨v2,rfl,Nv⟩:=zJ.one r2;have q1:bg X.K ae H1 Q (km z y M2):=q1
  cases y with
  | d x=>exact q1.elim
  | lv ds =>
   obtain⟨p,xs,rfl,hp,_,rd⟩:=Nv;unfold km at q1;dsimp only at q1
   cases es:kj ds with
   | none=>rw[es]at q1;exact q1.elim
   | some ss =>
    rw[es]at q1;dsimp only at q1;by_cases hc:Builtin.Str.tooLong (ss.toArray.foldl (λa b=>a+b.length+z.length) 0)=false/\(jl z ss).length<=sizeLine
    ·rw[aG hc]at q1;obtain rfl:=r9 es rd;exact⟨z,p,ss,rfl,rfl,hp,hc.1,hc.2,bg.plain (bg.shift (o:=.ok (.d (.str (jl z ss))) M2) q1 g2 s1.mem m2) m2 (dY _)⟩
    ·rw[aR hc]at q1;exact q1.elim
 | err _ _=>rw[hq]at q1;exact q1
 | aa=>rw[hq]at q1;exact q1
theorem mj:∀(t:Nat)(xs:List Str),aE (xs.map V.str) (strsFrom t xs)
 | _,[]=>.nil
 | t,x::xs=>by
  rw[strsFrom.eq_2];exact .cons ⟨_,rfl⟩ (mj _ xs)
theorem uL{α:Type}{P:α->Prop}{c d:Bool}{x y z:α}(h1:c=true->P x)(h2:c=false->d=true->P y)(h3:c=false->d=false->P z):P (if c=true then x else if d=true then y else z):=by
 cases c with
 | true=>rw[aG rfl];exact h1 rfl
 | false =>
  rw[aR aD]
  cases d with
  | true=>rw[aG rfl];exact h2 rfl rfl
  | false=>rw[aR aD];exact h3 rfl rfl
theorem yx:Jf X "str.split" (λx xs H Q=>∃a b,x=.str a/\xs=[.str b]/\(b.length==0)=false/\a.length<=sizeLine/\(Txt.split a b).length<=sizeLine/\∀p,H p=none->Q (.ref p) (bw H p (.lst ((Txt.split a b).map V.str)))):=by
 intro pins s σ H x xs v us Q I rx rv h;obtain⟨a,b,rfl,rfl,h0,ha,hl,q⟩:=h;obtain⟨t,rfl⟩:=rx;obtain⟨u,rfl,t',rfl⟩:=vals1 rv
 have fin:∀(l:List Str),l.length<=sizeLine->(∀p,H p=none->Q (.ref p) (bw H p (.lst (l.map V.str))))->∀(ax:List Value)(tk:Nat),aE (l.map V.str) ax->EP X pins σ Q (.ref s.heap.objs.size) {s with heap:=s.heap.push {cls:=.type "list",data:=.seq ax.toArray},toks:=tk}:=λl hl q ax tk hv =>
  ⟨.ref s.heap.objs.size,_,I.laid (t':=tk) (o:=.lst (l.map V.str)) (λb ob q=>bC _ q) (a6 _) ⟨by rw[aV];exact hl,ax,_,hv,dC _ rfl⟩,rfl,q _ (I.bc.fresh (a6 _))⟩
 revert hl q;unfold Txt.split
 exact uL (P:=λ(l:List Str)=>l.length<=sizeLine->(∀p,H p=none->Q (.ref p) (bw H p (.lst (l.map V.str))))->wpAny (model X.prog X.w) X.A (call (.builtin "str.split") [.str a t,.str b t']) (EP X pins σ Q) X.xe s)
  (λc1 hl q=>jX zY rfl F.entry_str_split (F.args_str_split_2 _ _) (meets_str_split_cannot_occur a b t t' c1) (fin _ hl q [.str a t] s.toks (.cons ⟨_,rfl⟩ .nil)))
  (λc1 c3 hl q=>jX zY rfl F.entry_str_split (F.args_str_split_2 _ _) (meets_str_split_not_found a b t t' c1 h0 c3) (fin _ hl q [.str a t] s.toks (.cons ⟨_,rfl⟩ .nil)))
  (λc1 c3 hl q=>jX zY rfl F.entry_str_split (F.args_str_split_2 _ _) (meets_str_split_sep a b t t' c1 h0 c3 ha hl) (fin _ hl q _ _ (mj _ _)))
theorem Bx:Jf X "str.partition" (λx xs H Q=>∃a b,x=.str a/\xs=[.str b]/\(b.length==0)=false/\a.length<=sizeLine/\∀p,H p=none->Q (.ref p) (bw H p (.tup [.str (Txt.partition a b).1,.str (Txt.partition a b).2.1,.str (Txt.partition a b).2.2]))):=by
 intro pins s σ H x xs v us Q I rx rv h;obtain⟨a,b,rfl,rfl,h0,ha,q⟩:=h;obtain⟨t,rfl⟩:=rx;obtain⟨u,rfl,t',rfl⟩:=vals1 rv
 have fin:∀(x y z:Str)(t1 t2 t3 tk:Nat),Txt.partition a b=(x,y,z)->EP X pins σ Q (.ref s.heap.objs.size) {s with heap:=s.heap.push {cls:=.type "tuple",data:=.seq #[.str x t1,.str y t2,.str z t3]},toks:=tk}:=λx y z t1 t2 t3 tk e=>by
  rw[e]at q;exact⟨.ref s.heap.objs.size,_,I.laid (t':=tk) (o:=.tup [.str x,.str y,.str z]) (λb ob q=>bC _ q) (a6 _) ⟨bW rfl,[.str x t1,.str y t2,.str z t3],.cons ⟨_,rfl⟩ (.cons ⟨_,rfl⟩ (.cons ⟨_,rfl⟩ .nil)),IsTup.new _ _⟩,rfl,q _ (I.bc.fresh (a6 _))⟩
 refine jX F.slot_str_partition rfl F.entry_str_partition (F.args_str_partition_2 _ _) (meets_str_partition a b t t' h0 ha) ?_;unfold Txt.partition at fin
 cases e:Builtin.Str.occurrences a b 0 a.length 1 with
 | nil=>rw[e]at fin;exact fin _ _ _ _ _ _ _ rfl
 | cons i tl=>rw[e]at fin;exact fin _ _ _ _ _ _ _ rfl
theorem oZ{K:PySem.W.Frag}{ads:List Addr}{H:Hp}:∀xs:List Str,aF K ads H (xs.map D.str) (xs.map V.str)
 | []=>by
  show aF K ads H [] [];unfold aF;rfl
 | x::xs=>by
  show aF K ads H (D.str x::xs.map D.str) _;unfold aF;exact⟨_,_,rfl,dY _,oZ xs⟩
theorem Nw{pt:Bool}{a b:C}{e x:Expr}{n:Str}{ap cp:Pos} (hn:n=if pt=true then ("partition" : Str) else "split") (hl:(ap.endLine==cp.line)=true) (h0:d0 e=true) (hx:az x=true) (Vx:bb cc b x=true) (ho:PE X e (tE X.K (ev G a))) (hb:PE X x (tE X.K (ev G b))):PE X (.Call (.Attribute e n ap) [x] [] cp) (tE X.K (ev G (.lN pt a b))):=by
 have Pg:=fT h0 n X.env (eval e X.env)
 have hc:bE cc [b] [x]=true:=by
  show(az x&&bb cc b x&&true)=true;rw[hx,Vx];rfl
 have oB:=qC hc (show 1<20 by decide) X.env cp
 have j_:∀(σ:L2.St)(H:Hp)(Q:VK)(r:V->List V->Hp->VK->Prop),(∀(z y:Str)(aO:List Addr)(H2:Hp)(M2:ab),aJ X.K aO H2 M2->bg X.K aO H2 Q (gI pt (.d (.str z)) (.d (.str y)) M2)->r (.str z) [.str y] H2 Q)->tE X.K (ev G (.lN pt a b)) σ H Q->QC X.K "str" r (tE X.K (ev G a)) (Hc X.K (cq G [b])) σ H Q:=λσ H Q r hk q=>by
  obtain⟨ads,M,ρ,s,q⟩:=q
  have q:bg X.K ads H Q ((ev G a ρ M).bind λx M=>match x with
   | .d (.str z)=>(ev G b ρ M).bind λy M=>gI pt (.d (.str z)) y M
   | _=>.aa):=q
  refine bQ s q λw M1 v H1 ae s1 i0 q1=>?_;rcases w with⟨_|_|_ | z | _|_|_⟩|_<;>first | exact q1.elim | skip
  have e1:=bz i0;subst e1;refine⟨rfl,ae,M1,ρ,s1,?_⟩;simp only[eP,dN];have q1:bg X.K ae H1 Q ((ev G b ρ M1).bind λy M=>gI pt (.d (.str z)) y M):=q1
  cases hq:ev G b ρ M1 with
  | ok y M2 =>
   rw[hq]at q1;intro vs H2 aO g2 m2 r2;obtain⟨v2,rfl,Nv⟩:=zJ.one r2;have q1:bg X.K ae H1 Q (gI pt (.d (.str z)) y M2):=q1;rcases y with⟨_|_|_ | y | _|_|_⟩|_<;>first | exact q1.elim | skip
   have e2:=bz Nv;subst e2;exact hk z y aO H2 M2 m2 (bg.shift (o:=gI pt (.d (.str z)) (.d (.str y)) M2) q1 g2 s1.mem m2)
  | err _ _=>rw[hq]at q1;exact q1
  | aa=>rw[hq]at q1;exact q1
 cases pt with
 | true =>
  subst hn;refine eK (rC F.plainAttrs_str F.slot_str_partition F.type_str_partition Bx ho (nz hx hb r6) Pg oB hl (a0 hx [] X.env) rfl) λσ H Q q=>j_ σ H Q _ (λz y aO H2 M2 m2 h=>?_) q;unfold gI at h;dsimp only at h;by_cases c:(y.length==0)=false/\z.length<=sizeLine/\(Txt.split z y).length<=sizeLine
  ·rw[aG c]at h;exact⟨z,y,rfl,rfl,c.1,c.2.1,λp hp=>bg.tuple h m2 (ds:=[.str (Txt.partition z y).1,.str (Txt.partition z y).2.1,.str (Txt.partition z y).2.2]) (by unfold aF;exact⟨_,_,rfl,dY _,by unfold aF;exact⟨_,_,rfl,dY _,by unfold aF;exact⟨_,_,rfl,dY _,by unfold aF;rfl⟩⟩⟩) hp⟩
  ·rw[aR c]at h;exact h.elim
 | false =>
  subst hn;refine eK (rC F.plainAttrs_str zY F.type_str_split yx ho (nz hx hb r6) Pg oB hl (a0 hx [] X.env) rfl) λσ H Q q=>j_ σ H Q _ (λz y aO H2 M2 m2 h=>?_) q;unfold gI at h;dsimp only at h;by_cases c:(y.length==0)=false/\z.length<=sizeLine/\(Txt.split z y).length<=sizeLine
  ·rw[aG c]at h;exact⟨z,y,rfl,rfl,c.1,c.2.1,c.2.2,λp hp=>bg.list h m2 (oZ _) hp⟩
  ·rw[aR c]at h;exact h.elim
noncomputable def By(v:V)(p:Str):Prop:=(v=.str p\/∃i:Int,v=.int i/\i.natAbs.log2<1920/\p=Str.ofString (toString i))/\p.length<=sizeLine
theorem yz{K:PySem.W.Frag}{ads:List Addr}{H:Hp}{w:W}{v:V}{p:Str}(r:RW K ads H w v)(h:Jj w=some p)(hp:p.length<=sizeLine):By v p:=by
 rcases w with⟨_|_ | i | z | _|_|_⟩|_<;>first | (cases h;done) | skip
 ·have h:(if i.natAbs.log2<1920 then some (Str.ofString (toString i)) else none)=some p:=h;by_cases c:i.natAbs.log2<1920
  ·rw[aG c]at h;cases h;exact⟨.inr ⟨i,aP r,c,rfl⟩,hp⟩
  ·rw[aR c]at h;cases h
 ·cases h;exact⟨.inl (bz r),hp⟩
theorem yA{pins:List (Addr×Obj)}{σ:L2.St}{H:Hp}{s:Shared}{v:V}{u:Value}{p:Str}{Q:Value->Shared->Prop}{E:Value->Shared->Prop}(h:By v p)(r:RelV v u)(k:∀t tk,Q (.str p t) {s with toks:=tk}):wpAny (model X.prog X.w) X.A (formatField u Str.empty) Q E s:=by
 obtain⟨h,hp⟩:=h;rcases h with rfl | ⟨i,rfl,hi,rfl⟩
 ·obtain⟨t,rfl⟩:=r;exact formatField_str (λt' tk=>k t' tk) hp
 ·obtain⟨t,rfl⟩:=r;exact formatField_int_small hi (k _ _)
theorem Hf{lit:Str}{e:Expr}(h:gM (.str lit) e=true):∀(s:Shared)(Q E:Value->Shared->Prop),(∀t tk,Q (.str lit t) {s with toks:=tk})->wpAny (model X.prog X.w) X.A (eval e X.env) Q E s:=by
 rcases(vk _ _).mp h with h | h
 ·refine bV (P:=λe=>∀(s:Shared)(Q E:Value->Shared->Prop),(∀t tk,Q (.str lit t) {s with toks:=tk})->wpAny (model X.prog X.w) X.A (eval e X.env) Q E s) h λc j p h s Q E k=>?_;cases c<;>first | exact absurd h aD | skip
  have h:_=true:=h;obtain rfl:=eq_of_beq h;exact Calls.Constant_str (k _ _)
 ·refine dI (P:=λe=>∀(s:Shared)(Q E:Value->Shared->Prop),(∀t tk,Q (.str lit t) {s with toks:=tk})->wpAny (model X.prog X.w) X.A (eval e X.env) Q E s) h λop x p h=>?_;have h:=((aA _ _).mp h).2;refine bV (P:=λ_=>∀(s:Shared)(Q E:Value->Shared->Prop),(∀t tk,Q (.str lit t) {s with toks:=tk})->wpAny (model X.prog X.w) X.A (eval (.UnaryOp op x p) X.env) Q E s) h λc j p h=>?_;cases c<;>exact absurd h aD
theorem Nx{lit:Str}{a b:C}{e1 e3 v2:Expr}{p1 p3 pos:Pos}(h2:gM (.str lit) v2=true)(ha:PE X e1 (tE X.K (ev G a)))(hb:PE X e3 (tE X.K (ev G b))):PE X (.JoinedStr [.FormattedValue e1 (-1) none p1,v2,.FormattedValue e3 (-1) none p3] pos) (tE X.K (ev G (.uz lit a b))):=by
 intro pins s σ H Q I q;obtain⟨ads,M,ρ,sr,q⟩:=q;rw[x9]at q;refine JoinedStr_many (joinParts_cons (FormattedValue_plain (bP (ha pins s σ H (λv H1=>∃p,By v p/\(Str.empty++p).length<=sizeLine/\(Str.empty++p++lit).length<=sizeLine/\tE X.K (λρ M=>(ev G b ρ M).bind λy M=>D0 lit p y M) σ H1 Q) I (bQ sr q λw M1 v H1 ae s1 i0 q1=>?_)) λu s1 ⟨v,H1,I1,r1,p,tv,c1,c2,q1⟩=>yA (pins:=pins) (σ:=σ) (H:=H1) tv r1 λt tk=>⟨c1,joinParts_cons (Hf h2 _ _ _ λt2 XC=>⟨c2,joinParts_consE (joinParts_cons (FormattedValue_plain ?_))⟩)⟩)))
 ·cases e:A_ lit w with
  | none=>rw[e]at q1;exact q1.elim
  | some p =>
   rw[e]at q1;unfold A_ at e;obtain⟨p',e1,e2⟩:=Option.bind_eq_some_iff.mp e;by_cases c:(Str.empty++p').length<=sizeLine/\(Str.empty++p'++lit).length<=sizeLine/\p'.length<=sizeLine
   ·rw[aG c]at e2;cases e2;exact⟨p,yz i0 e1 c.2.2,c.1,c.2.1,ae,M1,ρ,s1,q1⟩
   ·rw[aR c]at e2;cases e2
 ·obtain⟨ae,M1,Hg,Vy,q1⟩:=q1;refine bP (hb pins _ σ H1 (λv H2=>∃r,By v r/\(Str.empty++p++lit++r).length<=sizeLine/\Q (.str (Str.empty++p++lit++r)) H2) (I1.tok _) (bQ Vy q1 λw M2 v H2 aO s2 MC q2=>?_)) λu s2 ⟨v,H2,I2,r2,r,tv,c3,q2⟩=>yA (pins:=pins) (σ:=σ) (H:=H2) tv r2 λt tk=>⟨c3,joinParts_nilE (joinParts_nil ⟨.str _,H2,I2.tok _,⟨_,rfl⟩,q2⟩ c3)⟩;unfold D0 at q2
  cases e:Jj w with
  | none=>rw[e]at q2;exact q2.elim
  | some r =>
   rw[e]at q2;dsimp only at q2;by_cases c:(Str.empty++p++lit++r).length<=sizeLine/\r.length<=sizeLine
   ·rw[aG c]at q2;exact⟨r,yz MC e c.2,c.1,bg.plain q2 s2.mem (dY _)⟩
   ·rw[aR c]at q2;exact q2.elim
theorem Rz{m:Me}{o:C}{cs:List C}{e:Expr}{es:List Expr}{n:Str}{ap cp:Pos}(hu:X.A.units+100<cLine)(hn:n=ym m)(hm:M7 m=true)(hl:(ap.endLine==cp.line)=true)(h0:d0 e=true)(hc:bE cc cs es=true)(bu:es.length<20)(ho:PE X e (tE X.K (ev G o)))(ha:PA X es (zI X.K (a9 G cs))):PE X (.Call (.Attribute e n ap) es [] cp) (tE X.K (ev G (.me m o cs))):=by
 have hb:=fT h0 n X.env (eval e X.env);subst hn
 cases es with
 | nil =>
  cases cs with
  | cons _ _=>cases hc
  | nil =>
   cases m with
   | append=>exact eK (Gb F.plainAttrs_list F.slot_list_append F.type_list_append mf ho hb hl) λσ H Q q=>Bv q
   | insert=>cases hm
   | reverse=>cases hm
   | extend=>cases hm
   | remove=>cases hm
   | pop=>cases hm
   | clear=>cases hm
 | cons e1 es =>
  have lW:az e1=true/\bE cc cs.tail es=true:=by
   cases cs with
   | nil=>cases hc
   | cons c cs =>
    have h':(az e1&&bb cc c e1&&bE cc cs es)=true:=hc;simp only[aA]at h';exact⟨h'.1.1,h'.2⟩
  have oB:=qC hc bu X.env cp
  cases m with
  | append=>exact eK (rC F.plainAttrs_list F.slot_list_append F.type_list_append mf ho ha hb oB hl (a0 lW.1 es X.env) (d3 lW.2 X.env cp)) λσ H Q q=>He q
  | insert=>cases hm
  | reverse=>cases hm
  | extend=>cases hm
  | remove=>cases hm
  | pop=>cases hm
  | clear=>cases hm
theorem Ny{x:Str}{v:Int}{pos:Pos}(g:dm kk X cc G)(hg:glob cc x=true)(hp:aY x=true)(hl:cc.gs.lookup x=some v):PE X (.Name x pos) (tE X.K (ev G (.uy x v))):=by
 obtain⟨t,ht⟩:=g.Rq x v hl;refine eK (jH (v:=.int v) (g.gl hg) ht ⟨t,rfl⟩ (cI hp).1) λσ H Q q=>?_;obtain⟨ads,M,ρ,s,q⟩:=q;exact bg.plain q s.mem (cy _)
theorem bN.lookup{K:PySem.W.Frag}{ads:List Addr}{H:Hp}{f:Str}{d:D}:∀{xs:List (Str×D)}{ys:List (Str×V)},bN K ads H xs ys->xs.lookup f=some d->∃v,ys.lookup f=some v/\RD K ads H d v
 | [],_,_,e=>nomatch e
 | p::xs,ys,h,e=>by
  unfold bN at h;obtain⟨x,r,rfl,h0,h1,h2⟩:=h;obtain⟨a,b⟩:=p;obtain⟨a',v⟩:=x;obtain rfl:a=a':=h0;by_cases q:f=a
  ·subst q;simp only[d6,fw]at e⊢;cases e;exact⟨v,rfl,h1⟩
  ·have q:(f==a)=false:=by simpa using q
   simp only[d6,q]at e⊢;exact bN.lookup h2 e
end
end
section
variable [EX]
section
variable {kk:Nat} {X:Cx} {cc:CC} {G:bf}
structure TF (H H':Hp):Prop where
 tup:MJ H H'
 eX:∀b o u,H b=some (.eX o u)->H' b=some (.eX o u)
 xd:∀b gs,H b=some (.xd gs)->H' b=some (.xd gs)
theorem TF.jh{K:PySem.W.Frag}{H H':Hp}(t:TF H H'){a:Addr}{xs:List V}(h:oJ K H a xs):oJ K H' a xs:=by
 rcases h with⟨o,h⟩ | h
 ·exact .inl ⟨o,t.eX _ _ _ h⟩
 ·exact .inr h
mutual
theorem RD.keep{K:PySem.W.Frag}{ads:List Addr}{H H':Hp}(t:TF H H'):∀(d:D)(v:V),RD K ads H d v->RD K ads H' d v
 | .br,_,h=>by unfold RD at *;exact h
 | .bl _,_,h=>by unfold RD at *;exact h
 | .int _,_,h=>by unfold RD at *;exact h
 | .str _,_,h=>by unfold RD at *;exact h
 | .aX n,v,h=>by unfold RD at *;exact h
 | .tup ds,v,h=>by unfold RD at *;obtain⟨a,xs,e,h,r⟩:=h;exact⟨a,xs,e,t.tup _ _ h,aF.keep t ds xs r⟩
 | .ls ds,v,h=>by unfold RD at *;obtain⟨a,xs,e,h,r⟩:=h;exact⟨a,xs,e,t.jh h,aF.keep t ds xs r⟩
 | .fn _,_,h=>by unfold RD at *;exact h
 | .tg ds,v,h=>by unfold RD at *;obtain⟨a,xs,e,h,r⟩:=h;exact⟨a,xs,e,h,aF.keep t ds xs r⟩
theorem aF.keep{K:PySem.W.Frag}{ads:List Addr}{H H':Hp}(t:TF H H'):∀(ds:List D)(vs:List V),aF K ads H ds vs->aF K ads H' ds vs
 | [],_,h=>by unfold aF at *;exact h
 | d::ds,vs,h=>by unfold aF at *;obtain⟨x,r,e,h1,h2⟩:=h;exact⟨x,r,e,RD.keep t d x h1,aF.keep t ds r h2⟩
end
theorem bN.keep{κ:Type}{K:PySem.W.Frag}{ads:List Addr}{H H':Hp}(t:TF H H'):∀(ds:List (κ×D))(vs:List (κ×V)),bN K ads H ds vs->bN K ads H' ds vs
 | [],_,h=>by unfold bN at *;exact h
 | d::ds,vs,h=>by unfold bN at *;obtain⟨x,r,e,h0,h1,h2⟩:=h;exact⟨x,r,e,h0,RD.keep t d.2 x.2 h1,bN.keep t ds r h2⟩
theorem aJ.keep{K:PySem.W.Frag}{ads:List Addr}{H H':Hp}{M:ab}(m:aJ K ads H M)(t:TF H H')(k:∀a∈ads,H' a=H a):aJ K ads H' M:=⟨m.nd,m.len,λn o a e1 e2=>by
 have h:=m.obj n o a e1 e2;have ha:=k a (eL e2)
 cases o with
 | lst ds=>obtain⟨xs,h,r⟩:=h;exact⟨xs,ha.trans h,aF.keep t _ _ r⟩
 | jh ds=>obtain⟨o,xs,h,r⟩:=h;exact⟨o,xs,ha.trans h,aF.keep t _ _ r⟩
 | dK ds=>obtain⟨xs,h,r⟩:=h;exact⟨xs,ha.trans h,bN.keep t _ _ r⟩
 | dT ds=>obtain⟨xs,h,r⟩:=h;exact⟨xs,ha.trans h,bN.keep t _ _ r⟩
 | dF ds=>obtain⟨o,xs,h,r⟩:=h;exact⟨o,xs,ha.trans h,bN.keep t _ _ r⟩
 | dG ds=>obtain⟨o,xs,h,r⟩:=h;exact⟨o,xs,ha.trans h,bN.keep t _ _ r⟩
 | xc C ds=>exact h.elim⟩
theorem ir:∀(ak aB:List (bG×V)),(aB.map (·.1)++ak.map (·.1)).Nodup->eB aB ak=aB++ak
 | [],aB,_=>by simp[eB]
 | p::ps,aB,h=>by
  have hn:¬p.1∈aB.map (·.1):=by
   intro hm;rw[List.nodup_append]at h;exact h.2.2 _ hm _ (by simp) rfl
  have ha:(aB.any λkv=>decide (kv.1=p.1))=false:=by
   rw[ET];intro x hx;simp only[nU];exact λe=>hn (e▸List.mem_map_of_mem hx)
  have e:eB aB (p::ps)=eB (aB++[p]) ps:=by
   show eB (d8 aB p.1 p.2) ps=_;unfold d8;rw[ha];simp
  rw[e,ir ps (aB++[p]) (by simpa using h)];simp
noncomputable def i8(K:PySem.W.Frag)(G:bf):List Str->List C->List (TE×TE)
 | k::ks,c::cs=>(tC (.str k),tE K (ev G c))::i8 K G ks cs
 | _,_=>[]
theorem kQ{K:PySem.W.Frag}(ks:List Str)(cs:List C):∀t∈i8 K G ks cs,(∀σ H A B,(∀v H,A v H->B v H)->t.1 σ H A->t.1 σ H B)/\(∀σ H A B,(∀v H,A v H->B v H)->t.2 σ H A->t.2 σ H B):=by
 intro t ht
 have:∀(ks:List Str)(cs:List C),t∈i8 K G ks cs->∃k c,t=(tC (.str k),tE K (ev G c)):=by
  intro ks
  induction ks with
  | nil=>intro cs h;cases cs<;>cases h
  | cons k ks ih =>
   intro cs h
   cases cs with
   | nil=>cases h
   | cons c cs =>
    rcases bF.mp h with z | z
    ·exact⟨k,c,z⟩
    ·exact ih cs z
 obtain⟨k,c,rfl⟩:=this ks cs ht;refine⟨λσ H A B f h=>f _ _ h,λσ H A B f h=>?_⟩;obtain⟨ads,M,ρ,s,q⟩:=h;refine⟨ads,M,ρ,s,?_⟩
 cases hq:ev G c ρ M with
 | ok w M1=>rw[hq]at q;exact λv H' ao g m r=>f _ _ (q v H' ao g m r)
 | err _ _=>rw[hq]at q;exact q
 | aa=>rw[hq]at q;exact q
theorem o7{K:PySem.W.Frag}{ρ:En}{σ:L2.St}:∀(ks:List Str)(cs:List C){ads:List Addr}{H:Hp}{M:ab}{R:List V->Hp->Prop},ks.length=cs.length->SR K ads M ρ σ H->oS K ads H R (a9 G cs ρ M)->eZ (i8 K G ks cs) σ H λps H2=>∃vs,ps=(ks.map V.str).zip vs/\vs.length=ks.length/\R vs H2
 | [],[],ads,H,M,R,_,s,h=>⟨[],rfl,rfl,h [] H ads (ay.refl _ _) s.mem (by unfold aF;rfl)⟩
 | [],_::_,_,_,_,_,e,_,_=>by cases e
 | _::_,[],_,_,_,_,e,_,_=>by cases e
 | k::ks,c::cs,ads,H,M,R,e,s,h=>by
  show tE K (ev G c) σ H λy H2=>eZ (i8 K G ks cs) σ H2 λps H3=>_;refine⟨ads,M,ρ,s,?_⟩;simp only[eO,dM]at h
  cases hq:ev G c ρ M with
  | ok w M1 =>
   rw[hq]at h;intro v H1 ae g1 m1 r1
   cases ho:own w M1 with
   | ok d M2 =>
    have h:oS K ads H R ((own w M1).bind λd M=>(a9 G cs ρ M).bind λds M=>.ok (d::ds) M):=h;rw[ho]at h;obtain⟨aO,g2,m2,rd⟩:=nw s.mem g1 m1 r1 ho;have h:oS K ads H R ((a9 G cs ρ M2).bind λds M=>.ok (d::ds) M):=h
    have h2:oS K aO H1 (λvs H'=>R (v::vs) H') (a9 G cs ρ M2):=by
     cases yr:a9 G cs ρ M2 with
     | ok ds M3 =>
      rw[yr]at h;intro vs H3 cY g3 m3 r3;refine h (v::vs) H3 cY (g2.trans g3) m3 ?_;unfold aF;exact⟨v,vs,rfl,g3.rd _ _ rd,r3⟩
     | err _ _=>rw[yr]at h;exact EX.shift (show EX.post K ads H _ _ from h) g2
     | aa=>rw[yr]at h;exact h
    have ih:=o7 ks cs (by simpa using e) (s.grow g2 m2) h2
    have mono:∀(j6:List (TE×TE))(H:Hp)(P Q:List (V×V)->Hp->Prop),(∀ps H,P ps H->Q ps H)->(∀t∈j6,(∀σ H A B,(∀v H,A v H->B v H)->t.1 σ H A->t.1 σ H B)/\(∀σ H A B,(∀v H,A v H->B v H)->t.2 σ H A->t.2 σ H B))->eZ j6 σ H P->eZ j6 σ H Q:=by
     intro j6
     induction j6 with
     | nil=>intro H P Q f _ h;exact f _ _ h
     | cons t j6 ih =>
      intro H P Q f hm h;obtain⟨m1,m2⟩:=hm t cD;refine m1 σ H _ _ (λx H1 h1=>m2 σ H1 _ _ (λy H2 h2=>ih H2 _ _ (λps H3 h3=>f _ _ h3) (λt ht=>hm t (du _ ht)) h2) h1) h
    refine mono _ _ _ _ ?_ ?_ ih
    ·rintro ps H3 ⟨vs,rfl,hl,hR⟩;exact⟨v::vs,rfl,by simp[hl],hR⟩
    ·intro t ht;exact kQ ks cs t ht
   | err _ _=>cases w<;>cases ho
   | aa=>cases w<;>cases ho
  | err _ _=>rw[hq]at h;exact h
  | aa=>rw[hq]at h;exact h
theorem yB{ks:List Str}{cs:List C}:∀{keys:List (Option Expr)}{vs:List Expr}{pos:Pos},ip ks keys=true->ks.length=cs.length->bE cc cs vs=true->(∀c∈cs,∀e,bb cc c e=true->PE X e (tE X.K (ev G c)))->Je X pos keys vs (i8 X.K G ks cs):=by
 induction ks generalizing cs with
 | nil =>
  intro keys vs pos h1 h2 h3 ih
  cases keys with
  | cons _ _=>cases h1
  | nil =>
   cases cs with
   | cons _ _=>cases h2
   | nil =>
    cases vs with
    | cons _ _=>cases h3
    | nil=>exact As
 | cons k ks Vz =>
  intro keys vs pos h1 h2 h3 ih
  cases cs with
  | nil=>cases h2
  | cons c cs =>
   cases vs with
   | nil=>cases h3
   | cons e es =>
    have h':(az e&&bb cc c e&&bE cc cs es)=true:=h3;simp only[aA]at h'
    cases keys with
    | nil=>cases h1
    | cons ky keys =>
     cases ky with
     | none=>cases h1
     | some ke =>
      obtain⟨h1,hk⟩:=(aA _ _).mp h1;refine bV (P:=λke=>Je X pos (some ke::keys) (e::es) _) h1 λcn j p h1=>?_;cases cn<;>first | exact absurd (show false=true from h1) aD | skip
      rename_i st
      obtain rfl:k=st:=eq_of_beq h1;exact xq wI (ih c cD e h'.1.2) (Vz hk (by simpa using h2) h'.2 λc hc=>ih c (du _ hc))
theorem iu:∀{ks:List Str}{keys:List (Option Expr)},ip ks keys=true->keys.all (·.isSome)=true/\keys.length=ks.length
 | [],[],_=>⟨rfl,rfl⟩
 | [],_::_,h=>by cases h
 | _::_,[],h=>by cases h
 | k::ks,ky::keys,h=>by
  cases ky with
  | none=>cases h
  | some ke =>
   obtain⟨a,b⟩:=iu ((aA _ _).mp h).2;exact⟨by simp[a],by simp[b]⟩
theorem o8:∀{cs:List C}{es:List Expr},bE cc cs es=true->cs.length=es.length
 | [],[],_=>rfl
 | [],_::_,h=>by cases h
 | _::_,[],h=>by cases h
 | c::cs,e::es,h=>by
  have h':(az e&&bb cc c e&&bE cc cs es)=true:=h;simp only[aA]at h';simp[o8 h'.2]
theorem r_{α β:Type}:∀(l:List α)(r:List β),l.length=r.length->(l.zip r).map (·.1)=l
 | [],_,_=>by simp
 | a::l,[],h=>by simp at h
 | a::l,b::r,h=>by simp[r_ l r (by simpa using h)]
theorem sd{K:PySem.W.Frag}{ads:List Addr}{H:Hp}:∀(ks:List bG){ds:List D}{vs:List V},aF K ads H ds vs->ks.length=ds.length->bN K ads H (ks.zip ds) (ks.zip vs)
 | [],ds,vs,r,h=>by simp;unfold bN;rfl
 | k::ks,[],vs,r,h=>by simp at h
 | k::ks,d::ds,vs,r,h=>by
  unfold aF at r;obtain⟨x,r',rfl,h1,h2⟩:=r;show bN K ads H ((k,d)::ks.zip ds) ((k,x)::ks.zip r');unfold bN;exact⟨_,_,rfl,rfl,h1,sd ks h2 (by simpa using h)⟩
theorem Hh{pos:Pos}:PE X (.Dict [] [] pos) (tE X.K (ev G (.uZ [] []))):=by
 refine eK xo λσ H Q q=>?_;obtain⟨ads,M,ρ,s,q⟩:=q;intro p hp
 have q:bg X.K ads H Q (.ok (.d (.aX M.length)) (M++[.dK []])):=by
  simp only[qp,eO,dM]at q;exact q
 exact q.Rk s.mem hp (show bN X.K ads H [] [] by unfold bN;rfl)
theorem Nz{ks:List Str}{cs:List C}{keys:List (Option Expr)}{vs:List Expr}{pos:Pos}(h1:ip ks keys=true)(hn:ks.Nodup)(h0:keys≠[])(Mc:keys.length<=15)(hc:bE cc cs vs=true)(hl:ks.length=cs.length)(ih:∀c∈cs,∀e,bb cc c e=true->PE X e (tE X.K (ev G c))):PE X (.Dict keys vs pos) (tE X.K (ev G (.uZ ks cs))):=by
 obtain⟨k1,k2⟩:=iu h1;refine eK (Au (yB h1 hl hc ih) k1 (by rw[k2,hl,o8 hc]) h0 Mc) λσ H Q q=>?_;obtain⟨ads,M,ρ,s,q⟩:=q;intro p hp;have Tr:=s.mem.fresh hp;have g0:ay ads ads H (bw H p (.dK [])):=ay.e9 s.mem hp;have s0:SR X.K ads M ρ σ (bw H p (.dK [])):=s.grow g0 (s.mem.e9 hp);simp only[qp]at q
 have main:oS X.K ads (bw H p (.dK [])) (λvs H2=>H2 p=some (.dK [])/\(vs.length=ks.length->Q (.ref p) (bw H2 p (.dK ((ks.map Sum.inr).zip vs))))) (a9 G cs ρ M):=by
  cases hq:a9 G cs ρ M with
  | ok ds M1 =>
   rw[hq]at q;have q:bg X.K ads H Q (if ks.length=ds.length then .ok (.d (.aX M1.length)) (M1++[.dK ((ks.map Sum.inr).zip ds)]) else .aa):=q;split at q
   ·rename_i VA
    intro vs H2 aO g2 m2 r2;have e2:H2 p=some (.dK []):=g2.kept p _ Tr bx;refine⟨e2,λHi=>?_⟩;have Ts:p∉aO:=g2.ji Tr bx;have tk:TF H2 (bw H2 p (.dK ((ks.map Sum.inr).zip vs))):=⟨λb xs h=>by rw[ar (λz=>by subst z;rw[e2]at h;cases h)];exact h,λb o u h=>by rw[ar (λz=>by subst z;rw[e2]at h;cases h)];exact h,λb gs h=>by rw[ar (λz=>by subst z;rw[e2]at h;cases h)];exact h⟩;have m3:aJ X.K aO (bw H2 p (.dK ((ks.map Sum.inr).zip vs))) M1:=m2.keep tk λa ha=>ar (λz=>by subst z;exact Ts ha);have r3:=aF.keep (K:=X.K) (ads:=aO) tk _ _ r2;have m4:=m3.push (o:=.dK ((ks.map Sum.inr).zip ds)) Ts ⟨_,bx,sd (ks.map Sum.inr) r3 (by simpa using VA)⟩;obtain⟨t,et⟩:=g2.pre;refine q (.ref p) _ (aO++[p]) ⟨⟨t++[p],by rw[et,pR]⟩,λb hb nb=>?_,λb x nb h=>?_,λb xs h=>?_,λb o u h=>?_⟩ m4 ?_
    ·rcases gW.mp hb with z | z
     ·have:=g2.new b z nb;by_cases yC:b=p
      ·subst yC;exact hp
      ·rw[ar yC]at this;exact this
     ·have:b=p:=by simpa using z
      subst this;exact hp
    ·have yC:b≠p:=λz=>by subst z;rw[hp]at h;cases h
     rw[ar yC];exact g2.kept b x nb (by rw[ar yC];exact h)
    ·have yC:b≠p:=λz=>by subst z;rw[hp]at h;cases h
     rw[ar yC];exact g2.ft b xs (by rw[ar yC];exact h)
    ·have yC:b≠p:=λz=>by subst z;rw[hp]at h;cases h
     rw[ar yC];exact g2.eX b o u (by rw[ar yC];exact h)
    ·show RD X.K (aO++[p]) (bw H2 p (.dK ((ks.map Sum.inr).zip vs))) (.aX M1.length) (.ref p);unfold RD;exact⟨p,rfl,by rw[nQ (by rw[m2.len];exact a6 _)];simp[m2.len]⟩
   ·exact q.elim
  | err _ _=>rw[hq]at q;exact EX.shift (show EX.post X.K ads H _ _ from q) (ay.e9 s.mem hp)
  | aa=>rw[hq]at q;exact q
 have h:=o7 ks cs hl s0 main
 have mono:∀(j6:List (TE×TE))(H:Hp)(P Q:List (V×V)->Hp->Prop),(∀ps H,P ps H->Q ps H)->(∀t∈j6,(∀σ H A B,(∀v H,A v H->B v H)->t.1 σ H A->t.1 σ H B)/\(∀σ H A B,(∀v H,A v H->B v H)->t.2 σ H A->t.2 σ H B))->eZ j6 σ H P->eZ j6 σ H Q:=by
  intro j6
  induction j6 with
  | nil=>intro H P Q f _ h;exact f _ _ h
  | cons t j6 ih =>
   intro H P Q f hm h;obtain⟨m1,m2⟩:=hm t cD;refine m1 σ H _ _ (λx H1 h1=>m2 σ H1 _ _ (λy H2 h2=>ih H2 _ _ (λps H3 h3=>f _ _ h3) (λt ht=>hm t (du _ ht)) h2) h1) h
 refine mono _ _ _ _ ?_ (kQ ks cs) h;rintro ps H2 ⟨vs,rfl,Hi,e2,hQ⟩;refine⟨e2,(ks.map Sum.inr).zip vs,?_,?_,?_⟩
 ·rw[List.zip_map_left,List.zip_map_left,pU];rfl
 ·rw[List.length_zip,aV,Hi];omega
 ·have VB:((([]:List (bG×V)).map (·.1))++((ks.map (Sum.inr (α:=Int))).zip vs).map (·.1)).Nodup:=by
   rw[r_ _ _ (by rw[aV];exact Hi.symm)];simp only[tQ,Aa];exact List.Pairwise.map _ (λa b VC z=>VC (Sum.inr.inj z)) hn
  rw[ir _ _ VB];exact hQ Hi
end
end
section
variable [EX]
def Ee(K:PySem.W.Frag)(ads:List Addr)(H:Hp)(it:Ev.It)(J:L2.It):Prop :=
 ∀(i:Nat)(ae:List Addr)(H1:Hp)(M1:ab),ay ads ae H H1->aJ K ae H1 M1 ->
  (itemAt M1 i it=some none->J.stop i H1) /\
  (∀d,itemAt M1 i it=some (some d)->J.go i H1/\∀x H2,J.LP i H1 x H2->ay ae ae H1 H2/\aJ K ae H2 M1/\RD K ae H2 d x)
def i9(K:PySem.W.Frag)(ads:List Addr)(H:Hp)(R:L2.It->Hp->Prop):bp Ev.It->Prop
 | .ok it M=>∀J H' ao,ay ads ao H H'->aJ K ao H' M->Ee K ao H' it J->R J H'
 | .err x M=>EX.post K ads H x M
 | .aa=>False
noncomputable def tI(K:PySem.W.Frag)(o:En->ab->bp Ev.It):TI:=λσ H R=>∃ads M ρ,SR K ads M ρ σ H/\i9 K ads H R (o ρ M)
def cw(G:bf)(k:SK)(cF:List C)(ρ:En)(M:ab):bp Ev.It:=(cq G cF ρ M).bind λws M=>fF k ws M
section
variable {K:PySem.W.Frag} {ads:List Addr} {H:Hp} {M:ab}
theorem se(lo:Int)(n:Nat):Ee K ads H (.gZ lo n) (LQ lo n):=by
 intro i ae H1 M1 g1 m1;refine⟨λe=>?_,λd e=>?_⟩
 ·by_cases h:i<n
  ·simp[itemAt,h]at e
  ·exact Nat.not_lt.mp h
 ·by_cases h:i<n
  ·simp only[itemAt,aG h,pS]at e;subst e;refine⟨h,λx H2 y=>?_⟩;obtain⟨rfl,rfl⟩:=y;exact⟨ay.refl _ _,m1,cy _⟩
  ·simp[itemAt,h]at e
theorem kR{it:Ev.It}{a:Addr}(h:∀(i:Nat)(ae:List Addr)(H1:Hp)(M1:ab),ay ads ae H H1->aJ K ae H1 M1->∀o,itemAt M1 i it=some o->∃ds xs,o=ds[i]?/\aF K ae H1 ds xs/\d5 K H1 a xs):Ee K ads H it (Qe K a):=by
 intro i ae H1 M1 g1 m1;refine⟨λe=>?_,λd e=>?_⟩
 ·obtain⟨ds,xs,e2,rd,sq⟩:=h i ae H1 M1 g1 m1 _ e;refine⟨xs,sq,?_⟩;rw[<- rd.len];exact zQ.mp e2.symm
 ·obtain⟨ds,xs,e2,rd,sq⟩:=h i ae H1 M1 g1 m1 _ e;obtain⟨v,ev,rv⟩:=rd.get e2.symm;refine⟨⟨xs,v,sq,ev⟩,λx H2 y=>?_⟩;obtain⟨rfl,y⟩:=y;have:=y xs sq;rw[ev]at this;cases this;exact⟨ay.refl _ _,m1,rv⟩
theorem Bz{ds:List D}{xs:List V}{a:Addr}(ha:H a=some (.tup xs))(rd:aF K ads H ds xs):Ee K ads H (.items ds) (Qf K a):=by
 intro i ae H1 M1 g1 m1;have sq:eJ K H1 a xs:=eJ.of (g1.ft _ _ ha);have VD:=g1.lL _ _ rd;refine⟨λe=>?_,λd e=>?_⟩
 ·refine⟨xs,sq,?_⟩;rw[<- rd.len];exact zQ.mp (cx e)
 ·obtain⟨v,ev,rv⟩:=VD.get (cx e);refine⟨⟨xs,v,sq,ev⟩,λx H2 y=>?_⟩;obtain⟨rfl,y⟩:=y;have:=y xs sq;rw[ev]at this;cases this;exact⟨ay.refl _ _,m1,rv⟩
theorem BA{x:Str}:Ee K ads H (.items (iU x)) (Q_ x):=by
 intro i ae H1 M1 g1 m1
 have hc:(iU x)[i]?=(x.cps[i]?).map λc=>D.str ⟨#[c]⟩:=by
  unfold iU;rw[dP,Array.getElem?_toList]
 refine⟨λe=>?_,λd e=>?_⟩
 ·have e:(iU x)[i]?=none:=cx e;rw[hc]at e;exact Array.getElem?_eq_none_iff.mp (Option.map_eq_none_iff.mp e)
 ·have e:(iU x)[i]?=some d:=cx e;rw[hc]at e;obtain⟨c,ec,rfl⟩:=EJ.mp e;refine⟨(Array.getElem?_eq_some_iff.mp ec).1,λy H2 z=>?_⟩;obtain⟨rfl,c',Tt,rfl⟩:=z;rw[ec]at Tt;cases Tt;exact⟨ay.refl _ _,m1,by unfold RD;rfl⟩
end
theorem sg{K:PySem.W.Frag}{ads:List Addr}{H:Hp}{M:ab}{n:Nat}{v:V}{p:Bool×List D}(m:aJ K ads H M)(r:RD K ads H (.aX n) v)(hp:bL M (.d (.aX n))=some p):∃a,v=.ref a/\∃xs,d5 K H a xs:=by
 obtain⟨l,ds⟩:=p;obtain⟨a,xs,e,rd,sq⟩:=eG (w:=.d (.aX n)) m r hp;rcases sq with⟨_,sq⟩|⟨hl,_⟩
 ·exact⟨a,e,xs,sq⟩
 ·simp only[bL]at hp;split at hp
  ·cases hp;cases hl
  ·cases hp;cases hl
  ·cases hp
theorem yD{K:PySem.W.Frag}{ads aO:List Addr}{H H2:Hp}{M2:ab}{n i:Nat}{a:Addr}{o:Option D}(r:RD K ads H (.aX n) (.ref a))(g2:ay ads aO H H2)(m2:aJ K aO H2 M2)(e:itemAt M2 i (.at n)=some o):∃ds xs,o=ds[i]?/\aF K aO H2 ds xs/\d5 K H2 a xs:=by
 unfold RD at r;obtain⟨b,eb,ea⟩:=r;cases eb;have NA:=g2.get ea;simp only[itemAt]at e;split at e
 ·rename_i ds q
  obtain⟨xs,h,rd⟩:=m2.obj n _ a q NA;exact⟨ds,xs,(cx e).symm,rd,d5.of h⟩
 ·rename_i ds q
  obtain⟨o,xs,h,rd⟩:=m2.obj n _ a q NA;exact⟨ds,xs,(cx e).symm,rd,.inl (.inr ⟨o,h⟩)⟩
 ·cases e
section
variable {kk:Nat} {X:Cx} {cc:CC} {G:bf} {tg:Expr} {K:PySem.W.Frag} {ads:List Addr} {H:Hp}
theorem RA{aC:Expr}{t u:TI}(h:PI X tg aC t)(f:∀σ H R,u σ H R->t σ H R):PI X tg aC u:=λpins s σ H R I q=>h pins s σ H R I (f σ H R q)
theorem BB{c:C}{aC:Expr}(he:PE X aC (tE X.K (ev G c))):PI X tg aC (tI X.K (cw G .seq [c])):=by
 intro pins s σ H R I q;obtain⟨ads,M,ρ,sr,q⟩:=q;simp only[cw,cq]at q
 cases hq:ev G c ρ M with
 | ok w M1 =>
  rw[hq]at q;have q:i9 X.K ads H R (fF .seq [w] M1):=q
  cases w with
  | lv ds =>
   have q:i9 X.K ads H R (.ok (.items ds) M1):=q;refine mN he pins s σ H R I ⟨ads,M,ρ,sr,?_⟩;rw[hq];intro v H1 ae g1 m1 r1;obtain⟨a,xs,rfl,h0,h1,n,rd⟩:=r1;refine⟨a,rfl,⟨xs,d5.of h1⟩,q _ H1 ae g1 m1 (kR λi aO H2 M2 g2 m2 o e=>?_)⟩;exact⟨ds,xs,(cx e).symm,g2.lL _ _ rd,d5.of (g2.kept a _ n h1)⟩
  | d x =>
   cases x with
   | tup ds =>
    have q:i9 X.K ads H R (.ok (.items ds) M1):=q;refine wU he pins s σ H R I ⟨ads,M,ρ,sr,?_⟩;rw[hq];intro v H1 ae g1 m1 r1;have r1:RD X.K ae H1 (.tup ds) v:=r1;unfold RD at r1;obtain⟨a,xs,rfl,h1,rd⟩:=r1;exact⟨a,rfl,⟨xs,eJ.of h1⟩,q _ H1 ae g1 m1 (Bz h1 rd)⟩
   | ls ds =>
    have q:i9 X.K ads H R (.ok (.items ds) M1):=q;refine mN he pins s σ H R I ⟨ads,M,ρ,sr,?_⟩;rw[hq];intro v H1 ae g1 m1 r1;have r1:RD X.K ae H1 (.ls ds) v:=r1;unfold RD at r1;obtain⟨a,xs,rfl,h1,rd⟩:=r1;refine⟨a,rfl,⟨xs,h1.sq⟩,q _ H1 ae g1 m1 (kR λi aO H2 M2 g2 m2 o e=>?_)⟩;exact⟨ds,xs,(cx e).symm,g2.lL _ _ rd,(g2.jh h1).sq⟩
   | aX n =>
    have q:i9 X.K ads H R (if (bL M1 (.d (.aX n))).isSome then .ok (.at n) M1 else .aa):=q;split at q
    ·rename_i hs
     obtain⟨p,hp⟩:=tm.mp hs;refine mN he pins s σ H R I ⟨ads,M,ρ,sr,?_⟩;rw[hq];intro v H1 ae g1 m1 r1;obtain⟨a,ea,sq⟩:=sg m1 r1 hp;subst ea;exact⟨a,rfl,sq,q _ H1 ae g1 m1 (kR λi aO H2 M2 g2 m2 o e=>yD r1 g2 m2 e)⟩
    ·exact q.elim
   | br=>exact q.elim
   | bl _=>exact q.elim
   | int _=>exact q.elim
   | str x =>
    have q:i9 X.K ads H R (if (x.cps.all λc=>decide (c<128))=true then .ok (.items (iU x)) M1 else .aa):=q;split at q
    ·rename_i ha
     refine Gr he pins s σ H R I ⟨ads,M,ρ,sr,?_⟩;rw[hq];intro v H1 ae g1 m1 r1;have r1:RD X.K ae H1 (.str x) v:=r1;unfold RD at r1;exact⟨x,r1,ha,q _ H1 ae g1 m1 BA⟩
    ·exact q.elim
   | fn _=>exact q.elim
   | tg _=>exact q.elim
 | err _ _=>rw[hq]at q;exact wU he pins s σ H R I ⟨ads,M,ρ,sr,by rw[hq];exact q⟩
 | aa=>rw[hq]at q;exact q.elim
theorem yE{c:C}{a:Expr}{x:Str}{p pos:Pos}(g:Good kk X cc G) (hx:x = "range") (hg:glob cc x=true) (hs:az a=true) (he:PE X a (tE X.K (ev G c))):PI X tg (.Call (.Name x p) [a] [] pos) (tI X.K (cw G .rng1 [c])):=by
 have pN:=g.gl hg;have hm:X.mg x=none:=g.blt x (by subst hx;show _∈bI;decide +kernel);subst hx;refine RA (t7 pN hm (cm he fC (a0 hs [] X.env)) (a0 hs [] X.env)) λσ H R q=>?_;obtain⟨ads,M,ρ,s,q⟩:=q;simp only[cw,cq]at q;refine⟨ads,M,ρ,s,?_⟩
 cases hq:ev G c ρ M with
 | ok w M1 =>
  rw[hq]at q;have q:i9 X.K ads H R (fF .rng1 [w] M1):=q;intro v H1 ae g1 m1 r1;rcases w with⟨_|_ | j | _|_|_⟩|_<;>first | exact q.elim | skip
  have q:i9 X.K ads H R (if -(2 ^ 62)<=j/\j<2 ^ 62 then .ok (.gZ 0 j.toNat) M1 else .aa):=q;split at q
  ·rename_i hj
   exact⟨j,by rw[aP r1],hj.1,hj.2,q _ H1 ae g1 m1 (se _ _)⟩
  ·exact q.elim
 | err _ _=>rw[hq]at q;exact q
 | aa=>rw[hq]at q;exact q.elim
theorem yF{c d:C}{a b:Expr}{x:Str}{p pos:Pos}(g:Good kk X cc G) (hx:x = "range") (hg:glob cc x=true) (hs:az a=true) (wV:az b=true) (he:PE X a (tE X.K (ev G c))) (hd:PE X b (tE X.K (ev G d))):PI X tg (.Call (.Name x p) [a,b] [] pos) (tI X.K (cw G .rng2 [c,d])):=by
 have pN:=g.gl hg;have hm:X.mg x=none:=g.blt x (by subst hx;show _∈bI;decide +kernel);subst hx;refine RA (t9 pN hm (cm he (cm hd fC (a0 wV [] X.env)) (a0 hs [b] X.env)) (by rw[a0 hs,a0 wV];rfl) (a0 wV [] X.env)) λσ H R q=>?_;obtain⟨ads,M,ρ,s,q⟩:=q;simp only[cw,cq]at q;refine⟨ads,M,ρ,s,?_⟩
 cases hq:ev G c ρ M with
 | ok w M1 =>
  rw[hq]at q;intro v H1 ae g1 m1 r1;have s1:=s.grow g1 m1;refine⟨ae,M1,ρ,s1,?_⟩;simp only[bp.bind]at q
  cases uK:ev G d ρ M1 with
  | ok w2 M2 =>
   rw[uK]at q;have q:i9 X.K ads H R (fF .rng2 [w,w2] M2):=q;intro v2 H2 aO g2 m2 r2;rcases w with⟨_|_ | i | _|_|_⟩|_<;>first | exact q.elim | skip
   rcases w2 with⟨_|_ | j | _|_|_⟩|_<;>first | exact q.elim | skip
   have q:i9 X.K ads H R (if -(2 ^ 62)<=i/\i<2 ^ 62/\-(2 ^ 62)<=j/\j<2 ^ 62 then .ok (.gZ i (j-i).toNat) M2 else .aa):=q;split at q
   ·rename_i hj
    exact⟨i,j,by rw[aP r1,aP r2],hj,q _ H2 aO (g1.trans g2) m2 (se _ _)⟩
   ·exact q.elim
  | err _ _=>rw[uK]at q;exact EX.shift (show EX.post X.K ads H _ _ from q) g1
  | aa=>rw[uK]at q;exact q.elim
 | err _ _=>rw[hq]at q;exact q
 | aa=>rw[hq]at q;exact q.elim
theorem bN.at{κ:Type}{K:PySem.W.Frag}{ads:List Addr}{H:Hp}:∀{ak:List (κ×D)}{ks:List (κ×V)}(i:Nat),bN K ads H ak ks->(ak[i]?).map (·.1)=(ks[i]?).map (·.1)
 | [],_,_,r=>by unfold bN at r;subst r;rfl
 | p::ak,_,i,r=>by
  unfold bN at r;obtain⟨x,r',rfl,h0,_,h2⟩:=r
  cases i with
  | zero=>simp[h0]
  | succ i=>simpa using bN.at i h2
theorem Ef{K:PySem.W.Frag}{ads:List Addr}{H:Hp}{M:ab}{w:W}{v:V}{z:Z1}(m:aJ K ads H M)(r:RW K ads H w v)(hz:DZ M w=some z):∃(l:Bool) (a:Addr),v=.ref a/\(∃xs,nL K H l a xs)/\∀aO H2 M2,ay ads aO H H2->aJ K aO H2 M2->∀ds,lR M2 z=some ds->∃xs,aF K aO H2 ds xs/\nL K H2 l a xs:=by
 rcases w with⟨_|_|_|_ | ds | n | ds⟩ | ds<;>first | cases hz | skip
 ·have r:RD K ads H (.tup ds) v:=r;unfold RD at r;obtain⟨b,xs,rfl,h1,rd⟩:=r;exact⟨false,b,rfl,⟨xs,eJ.of h1⟩,λaO H2 M2 g2 m2 es e=>by cases e;exact⟨xs,g2.lL _ _ rd,eJ.of (g2.ft _ _ h1)⟩⟩
 ·have hz:(if (bL M (.d (.aX n))).isSome then some (Z1.at n) else none)=some z:=hz;split at hz
  ·rename_i hs
   cases hz;obtain⟨p,hp⟩:=tm.mp hs;obtain⟨b,ea,sq⟩:=sg m r hp;subst ea;refine⟨true,b,rfl,sq,λaO H2 M2 g2 m2 es e=>?_⟩;have r:RD K ads H (.aX n) (.ref b):=r;unfold RD at r;obtain⟨b',eb,ea⟩:=r;cases eb;have NA:=g2.get ea;simp only[lR]at e;split at e
   ·rename_i ds q
    cases e;obtain⟨xs,h,rd⟩:=m2.obj n _ b q NA;exact⟨xs,rd,d5.of h⟩
   ·rename_i ds q
    cases e;obtain⟨o,xs,h,rd⟩:=m2.obj n _ b q NA;exact⟨xs,rd,.inl (.inr ⟨o,h⟩)⟩
   ·cases e
  ·cases hz
 ·have r:RD K ads H (.ls ds) v:=r;unfold RD at r;obtain⟨b,xs,rfl,h1,rd⟩:=r;exact⟨true,b,rfl,⟨xs,h1.sq⟩,λaO H2 M2 g2 m2 es e=>by cases e;exact⟨xs,g2.lL _ _ rd,(g2.jh h1).sq⟩⟩
 ·obtain⟨b,xs,rfl,h1,n,rd⟩:=r;exact⟨true,b,rfl,⟨xs,d5.of h1⟩,λaO H2 M2 g2 m2 es e=>by cases e;exact⟨xs,g2.lL _ _ rd,d5.of (g2.kept b _ n h1)⟩⟩
theorem BC{K:PySem.W.Frag}{ads:List Addr}{H:Hp}{z y:Z1}{l m:Bool}{a b:Addr}(h1:∀aO H2 M2,ay ads aO H H2->aJ K aO H2 M2->∀ds,lR M2 z=some ds->∃xs,aF K aO H2 ds xs/\nL K H2 l a xs)(h2:∀aO H2 M2,ay ads aO H H2->aJ K aO H2 M2->∀ds,lR M2 y=some ds->∃xs,aF K aO H2 ds xs/\nL K H2 m b xs):Ee K ads H (.zip z y) (Q3 K l m a b):=by
 intro i ae H1 M1 g1 m1
 have j_:∀o,itemAt M1 i (.zip z y)=some o->∃ds es xs ys,o=jk ds es i/\aF K ae H1 ds xs/\nL K H1 l a xs/\aF K ae H1 es ys/\nL K H1 m b ys:=λo e=>by
  simp only[itemAt]at e;split at e
  ·rename_i ds es q1 q2
   obtain⟨xs,r1,s1⟩:=h1 ae H1 M1 g1 m1 ds q1;obtain⟨ys,r2,s2⟩:=h2 ae H1 M1 g1 m1 es q2;exact⟨ds,es,xs,ys,(cx e).symm,r1,s1,r2,s2⟩
  ·cases e
 refine⟨λe=>?_,λd e=>?_⟩
 ·obtain⟨ds,es,xs,ys,e2,r1,s1,r2,s2⟩:=j_ _ e;refine⟨xs,ys,s1,s2,?_⟩;rw[<- r1.len,<- r2.len];unfold jk at e2
  cases q1:ds[i]? with
  | none=>exact .inl (zQ.mp q1)
  | some d1 =>
   cases q2:es[i]? with
   | none=>exact .inr (zQ.mp q2)
   | some d2=>rw[q1,q2]at e2;cases e2
 ·obtain⟨ds,es,xs,ys,e2,r1,s1,r2,s2⟩:=j_ _ e;unfold jk at e2
  cases q1:ds[i]? with
  | none=>rw[q1]at e2;cases e2
  | some d1 =>
   cases q2:es[i]? with
   | none=>rw[q1,q2]at e2;cases e2
   | some d2 =>
    rw[q1,q2]at e2;cases e2;obtain⟨v1,Tu,VF⟩:=r1.get q1;obtain⟨v2,Tv,Nv⟩:=r2.get q2;refine⟨⟨xs,ys,v1,v2,s1,s2,Tu,Tv⟩,λx H2 yy=>?_⟩;obtain⟨p,x1,x2,rfl,hp,rfl,a1,a2⟩:=yy;have t1:=a1 xs s1;have t2:=a2 ys s2;rw[Tu]at t1;rw[Tv]at t2;cases t1;cases t2;have g2:=ay.e9 (o:=.tup [v1,v2]) m1 hp;refine⟨g2,m1.e9 hp,?_⟩;unfold RD;refine⟨p,_,rfl,bx,?_⟩;unfold aF;exact⟨v1,[v2],rfl,g2.rd _ _ VF,.one (g2.rd _ _ Nv)⟩
theorem BD{c d:C}{a b t:Expr}{x:Str}{p pos:Pos}(g:Good kk X cc G) (hx:x = "zip") (hg:glob cc x=true) (hs:az a=true) (wV:az b=true) (he:PE X a (tE X.K (ev G c))) (hd:PE X b (tE X.K (ev G d))):PI X t (.Call (.Name x p) [a,b] [] pos) (tI X.K (cw G .zip [c,d])):=by
 have pN:=g.gl hg;have hm:X.mg x=none:=g.blt x (by subst hx;show _∈bI;decide +kernel);subst hx;refine RA (Go pN hm (cm he (cm hd fC (a0 wV [] X.env)) (a0 hs [b] X.env)) (a0 hs [b] X.env) (a0 wV [] X.env)) λσ H R q=>?_;obtain⟨ads,M,ρ,s,q⟩:=q;simp only[cw,cq]at q;refine⟨ads,M,ρ,s,?_⟩
 cases hq:ev G c ρ M with
 | ok w M1 =>
  rw[hq]at q;intro v H1 ae g1 m1 r1;have s1:=s.grow g1 m1;refine⟨ae,M1,ρ,s1,?_⟩;simp only[bp.bind]at q
  cases uK:ev G d ρ M1 with
  | ok w2 M2 =>
   rw[uK]at q;have q:i9 X.K ads H R (fF .zip [w,w2] M2):=q;intro v2 H2 aO g2 m2 r2
   have q:i9 X.K ads H R (match DZ M2 w,DZ M2 w2 with
    | some a,some b=>.ok (.zip a b) M2
    | _,_=>.aa):=q
   cases q1:DZ M2 w with
   | none=>rw[q1]at q;exact q.elim
   | some z1 =>
    cases q2:DZ M2 w2 with
    | none=>rw[q1,q2]at q;exact q.elim
    | some z2 =>
     rw[q1,q2]at q;obtain⟨l,a1,rfl,VG,k1⟩:=Ef m2 (g2.rw r1.rw) q1;obtain⟨m,b1,rfl,VH,k2⟩:=Ef m2 r2.rw q2;exact⟨l,m,a1,b1,rfl,VG,VH,q _ H2 aO (g1.trans g2) m2 (BC k1 k2)⟩
  | err _ _=>rw[uK]at q;exact EX.shift (show EX.post X.K ads H _ _ from q) g1
  | aa=>rw[uK]at q;exact q.elim
 | err _ _=>rw[hq]at q;exact q
 | aa=>rw[hq]at q;exact q.elim
end
end
section
variable [EX]
def tG(K:PySem.W.Frag)(tg:List Nat):TG:=λv σ H Q=>∃ads M ρ d,SR K ads M ρ σ H/\RD K ads H d v/\∃dB,bJ tg d ρ=some dB/\∀cg,SR K ads M dB cg H->Q cg H
theorem SR.set{K:PySem.W.Frag}{ads:List Addr}{M:ab}{ρ:En}{σ:L2.St}{H:Hp}(s:SR K ads M ρ σ H)(i:Nat){d:D}{v:V}(r:RD K ads H d v):SR K ads M (ρ.set i (some d)) (σ.set i (some v)) H :=
 ⟨s.mem,λj d' e=>by
  by_cases h:i=j
  ·subst h
   have hl:i<ρ.length:=by
    have:=(eU.mp e).1;simpa using this
   rw[tu hl]at e;cases e;exact⟨v,by rw[tu (by rw[<- s.ln];exact hl)],r⟩
  ·rw[nR h]at e⊢;exact s.en j d' e,by simp[s.ln]⟩
def gN:List Nat->DI
 | []=>LN
 | i::r=>DK (DJ i) (gN r)
section
variable {kk:Nat} {X:Cx} {cc:CC} {G:bf}
theorem dm.nm(g:dm kk X cc G){x:Str}(h:(cc.names.lookup x==some .local||cc.names.lookup x==some .cell)=true):Loc X.env.scope x/\(X.fn x=true\/X.env.scope.names.lookup x=some .local):=by
 rw[vk]at h;rcases h with h | h
 ·have h:=eq_of_beq h;exact⟨.inl (g.kinds x _ h),.inr (g.kinds x _ h)⟩
 ·have h:=eq_of_beq h;exact⟨.inr (g.kinds x _ h),.inl (g.To x h)⟩
theorem sh(g:Good kk X cc G):∀(tg:List Nat)(es:List Expr),iq cc tg es=true->Jc X es (gN tg)/\es.length=tg.length/\(assignEach es X.env).length=tg.length/\(assignEach es X.env).findIdx? (·.1)=none
 | [],[],_=>⟨Ai,rfl,rfl,rfl⟩
 | [],_::_,h=>by cases h
 | _::_,[],h=>by cases h
 | i::tg,e::es,h=>by
  obtain⟨h,h3⟩:=(aA _ _).mp h;obtain⟨ih,l1,l2,l3⟩:=sh g tg es h3;refine aQ (P:=λe=>Jc X (e::es) (gN (i::tg))/\(e::es).length=(i::tg).length/\(assignEach (e::es) X.env).length=(i::tg).length/\(assignEach (e::es) X.env).findIdx? (·.1)=none) h λx p h=>?_;obtain⟨h1,h2⟩:=(aA _ _).mp h;obtain⟨n1,n2⟩:=g.nm h2;refine⟨wQ (mM (by rw[g.N];exact g.nd) (by rw[g.N];exact eq_of_beq h1) n1 n2) ih,by simp[l1],?_,?_⟩
  ·show(assignEach es X.env).length+1=_;rw[l2];rfl
  ·show List.findIdx? _ ((false,_)::assignEach es X.env)=none;rw[List.findIdx?_cons];simp only[Bool.false_eq_true,if_false];rw[l3];rfl
theorem Eg{K:PySem.W.Frag}{ads:List Addr}{M:ab}{H:Hp}{Q:L2.St->Hp->Prop}{dB:En}(hQ:∀cg,SR K ads M dB cg H->Q cg H):∀(tg:List Nat)(ds:List D)(xs:List V)(ρ:En)(σ:L2.St),SR K ads M ρ σ H->aF K ads H ds xs->cN tg ds ρ=some dB->gN tg xs σ H Q
 | [],[],xs,ρ,σ,s,r,e=>by
  unfold aF at r;subst r;cases e;exact⟨rfl,hQ σ s⟩
 | [],_::_,_,_,_,_,_,e=>by cases e
 | _::_,[],_,_,_,_,_,e=>by cases e
 | i::tg,d::ds,xs,ρ,σ,s,r,e=>by
  unfold aF at r;obtain⟨x,r',rfl,h1,h2⟩:=r;exact⟨x,r',rfl,Eg hQ tg ds r' _ _ (s.set i h1) h2 e⟩
theorem kS:∀(tg:List Nat)(ds:List D)(ρ dB:En),cN tg ds ρ=some dB->ds.length=tg.length
 | [],[],_,_,_=>rfl
 | [],_::_,_,_,e=>by cases e
 | _::_,[],_,_,e=>by cases e
 | i::tg,d::ds,ρ,dB,e=>by simp[kS tg ds _ dB e]
theorem iw(g:Good kk X cc G){tg:List Nat}{t:Expr}(h:gx cc tg t=true):PG X t (tG X.K tg):=by
 rcases tg with _|⟨i,_|⟨j,tl⟩⟩
 ·exact absurd h aD
 ·refine aQ (P:=λt=>PG X t _) ((aA _ _).mp h).1 λx p h=>?_;obtain⟨h1,h2⟩:=(aA _ _).mp h;obtain⟨n1,n2⟩:=g.nm h2;intro pins s σ H v u Q I r q;refine mM (by rw[g.N];exact g.nd) (by rw[g.N];exact eq_of_beq h1) n1 n2 pins s σ H v u Q I r ?_;obtain⟨ads,M,ρ,d,sr,rd,dB,e,hQ⟩:=q;cases e;exact hQ _ (sr.set i rd)
 ·refine fc (P:=λt=>PG X t _) h λes kq p h=>?_;obtain⟨a,l1,l2,l3⟩:=sh g (i::j::tl) es ((aA _ _).mp h).1;intro pins s σ H v u Q I r q;refine FH (pos:=p) (k:=kq) g.calm a l2 l3 pins s σ H v u Q I r ?_;obtain⟨ads,M,ρ,d,sr,rd,dB,e,hQ⟩:=q
  have e':∃ds,d=.tup ds/\cN (i::j::tl) ds ρ=some dB:=by
   cases d<;>first | cases e | exact⟨_,rfl,e⟩
  obtain⟨ds,rfl,e2⟩:=e';unfold RD at rd;obtain⟨b,xs,rfl,hb,rd⟩:=rd;exact⟨b,xs,rfl,eJ.of hb,by rw[<- rd.len,kS _ ds ρ dB e2],Eg hQ _ ds xs ρ σ sr rd e2⟩
end
theorem gO {env : Env} : ∀ (names : List (Str × NameKind)) (aB : List (Str × Addr)), (∀ y ∈ names, y.2 = .free -> ∃ c, env.cells.lookup y.1 = some c) -> (∀ x c, aB.lookup x = some c -> env.cells.lookup x = some c) ->
    ∃cl,(forIn names aB λ(x:Str×NameKind) (r:List (Str×Addr))=>(match x with | (name,kind)=>if (kind==NameKind.free)=true then do let a <- cellOf env name;pure (ForInStep.yield ((name,a)::r)) else pure (ForInStep.yield r):Sem (ForInStep (List (Str×Addr)))))=pure cl /\
      (∀x c,cl.lookup x=some c->env.cells.lookup x=some c)/\(∀x,(aB.lookup x).isSome=true->(cl.lookup x).isSome=true)/\∀y∈names,y.2=.free->(cl.lookup y.1).isSome=true
  | [],aB,_,h=>⟨aB,rfl,h,λ_ q=>q,λy hy=>by cases hy⟩
  | (n,k)::r,aB,hn,h=>by
    by_cases hk:k=.free
    · subst hk;obtain⟨c,hc⟩:=hn (n,.free) cD rfl
      have h2:∀x c',((n,c)::aB).lookup x=some c'->env.cells.lookup x=some c':=λx c' e=>by
        rw[d6]at e;by_cases hx:x=n
        · subst hx;simp at e;rw[<- e];exact hc
        · have:(x==n)=false:=lE.mpr hx;rw[this]at e;exact h x c' e
      obtain⟨cl,e1,e2,e3,e4⟩:=gO r ((n,c)::aB) (λy hy=>hn y (du _ hy)) h2;refine⟨cl,?_,e2,λx q=>e3 x ?_,λy hy hf=>?_⟩
      · rw[tM];have:cellOf env n=pure c:=by unfold cellOf;rw[hc]
        simp only[fw,gY,this];exact e1
      · rw[d6];by_cases hx:(x==n)=true
        · simp[hx]
        · simp only[hx];exact q
      · rcases bF.mp hy with z | z
        · subst z;exact e3 _ (by simp[d6])
        · exact e4 y z hf
    · obtain⟨cl,e1,e2,e3,e4⟩:=gO r aB (λy hy=>hn y (du _ hy)) h;refine⟨cl,?_,e2,e3,λy hy hf=>?_⟩
      · rw[tM];have:(k==NameKind.free)=false:=by simpa using hk
        simp only[this,Bool.false_eq_true,if_false];exact e1
      · rcases bF.mp hy with z | z
        · subst z;exact absurd hf hk
        · exact e4 y z hf
theorem si{X:Cx}{sc:Scope}(h:∀y∈sc.names,y.2=.free->∃c,X.env.cells.lookup y.1=some c):∃cl,Gi X sc cl:=by
 obtain⟨cl,e1,e2,e3,e4⟩:=gO sc.names [] h (λx c e=>by cases e);refine⟨cl,?_,e2,λx hx=>tm.mp (e4 (x,.free) (jR hx) rfl)⟩;unfold closureFor;exact jt (λm=>m >>= λcs=>pure cs) e1
section
variable {kk:Nat} {X:Cx} {cc:CC} {G:bf}
theorem jM{sc:Scope}(h:oX cc sc=true):sc.kind=.function/\(∀y∈sc.names,y.2=.cell->sc.names.lookup y.1=some .cell)/\(∀y∈sc.names,y.2=.local->sc.names.lookup y.1=some .local)/\(dy sc).Nodup/\∀y∈sc.names,y.2=.free->sc.names.lookup y.1=some .free/\(cc.names.lookup y.1=some .cell\/cc.names.lookup y.1=some .free):=by
 unfold oX at h;simp only[aA,dQ,jT,bne_iff_ne,ne_eq,nU,vk]at h;obtain⟨⟨⟨⟨h1,h2⟩,h3⟩,h4⟩,h5⟩:=h;refine⟨h1,λy hy hk=>?_,λy hy hk=>?_,h4,λy hy hk=>?_⟩
 ·rcases h2 y hy with z | z
  ·exact absurd hk z
  ·exact z
 ·rcases h3 y hy with z | z
  ·exact absurd hk z
  ·exact z
 ·rcases h5 y hy with z | z
  ·exact absurd hk z
  ·exact z
theorem Good.block(g:Good kk X cc G){sc:Scope}(h:oX cc sc=true){cl:List (Str×Addr)}(C:Addr)(s:Shared)(H:Hp)(fp:List Addr):@Good never kk (X.block sc cl C (dy sc) s H fp []) (mi cc sc) G:=by
 obtain⟨h1,h2,h3,h4,h5⟩:=jM h;refine @Good.mk never kk (X.block sc cl C (dy sc) s H fp []) (mi cc sc) G ⟨g.rh,rfl,h4,(λx k e=>?_),(λx e=>?_),g.blt,g.Rq,(λ_ _ _ z=>nomatch z),(λ_ _ _ z=>nomatch z),g.Pb,g.qj,g.uY,(λ_ _ _ _ z=>nomatch z)⟩ g.calm g.room g.fns ⟨E0,(λ_ _ _ _ _ _ _ h=>h.elim),λh=>h.elim⟩
 ·have e:sc.names.lookup x=some k:=e;have r:=cL (env:=X.env) e;have kd:(X.block sc cl C (dy sc) s H fp []).env.kindOf x=some (if (k==NameKind.free&&X.env.scope.kind == .function&&X.env.kindOf x==some .cell) then .cell else k):=r
  cases k with
  | «local»=>exact kd
  | cell=>exact kd
  | free =>
   show _\/_;rw[kd];split
   ·exact .inl rfl
   ·exact .inr rfl
  | globalExplicit=>exact True.intro
  | globalImplicit=>exact kd
 ·have e:sc.names.lookup x=some .cell:=e;show(sc.names.lookup x==some .cell)=true;rw[e];rfl
theorem yG(g:Good kk X cc G){sc:Scope}(h:oX cc sc=true):xM X sc (dy sc) (kJ cc sc):=by
 obtain⟨h1,h2,h3,h4,h5⟩:=jM h;refine⟨by simp[kJ],λi j x e1 e2=>?_⟩;unfold kJ at e1;rw[dP,e2]at e1;simp only[Option.map_some,pS]at e1;split at e1
 ·rename_i hf
  have hf:sc.names.lookup x=some .free:=by simpa using hf
  obtain⟨_,ho⟩:=h5 (x,.free) (jR hf) rfl;refine⟨?_,hf,?_⟩
  ·rw[g.N];obtain⟨hj,hx,_⟩:=List.findIdx?_eq_some_iff_getElem.mp e1;rw[jq hj];have:cc.N[j]=x:=by simpa using hx
   rw[this]
  ·rcases ho with ho | ho
   ·exact .inl (g.kinds x _ ho)
   ·exact g.kinds x _ ho
 ·cases e1
theorem yH{K:PySem.W.Frag}{ads:List Addr}{M:ab}{ρ:En}{σ:L2.St}{H:Hp}(s:SR K ads M ρ σ H)(bY:List (Option Nat)):SR K ads M (d_ bY ρ) (h_ bY σ) H:=by
 refine⟨s.mem,λi d e=>?_,by simp[d_,h_]⟩;unfold d_ at e;unfold h_;rw[dP]at e⊢
 cases q:bY[i]? with
 | none=>rw[q]at e;cases e
 | some o =>
  rw[q]at e
  cases o with
  | none=>cases e
  | some j =>
   have e:(ρ[j]?).join=some d:=cx e
   have e2:ρ[j]?=some (some d):=by
    cases r:ρ[j]? with
    | none=>rw[r]at e;cases e
    | some z=>rw[r]at e;cases z with
     | none=>cases e
     | some y=>cases e;rfl
   obtain⟨v,ev,rv⟩:=s.en j d e2;exact⟨v,by simp[ev],rv⟩
theorem ay.sj{ads ao:List Addr}{H H':Hp}{D:Addr}{o:HO}(g:ay ads ao H H')(h:H D=none):ay ads ao H (bw H' D o) :=
 ⟨g.pre,g.new,λb x n e=>by rw[ar (λz=>by subst z;rw[h]at e;cases e)];exact g.kept b x n e,λb x e=>by rw[ar (λz=>by subst z;rw[h]at e;cases e)];exact g.ft b x e,
  λb x u e=>by rw[ar (λz=>by subst z;rw[h]at e;cases e)];exact g.eX b x u e⟩
theorem o9{K:PySem.W.Frag}{G:bf}{it:Ev.It}{J:L2.It}{tg:List Nat}{cond:Option dv}{elt:C}{bY:List (Option Nat)}{ads:List Addr}{M:ab}{ρ:En}{σ:L2.St}{H:Hp}{Q:VK}{f:Nat}(s:SR K ads M ρ σ H)(hJ:Ee K ads H it J)(q:bg K ads H Q (a8 (λτ M=>bq G cond τ M) (λτ M=>(ev G elt τ M).bind own) it tg f 0 (d_ bY ρ) M [])):qf bY (tG K tg) (cond.map λt=>@lD never K (cT G t)) (@tE never K (ev G elt)) σ J H Q:=by
  intro D hD;have VI:=s.mem.fresh hD
  refine⟨λi m τ H' ys=>∃ao M' kU aB,SR K ao M' kU τ H'/\ay ads ao H H'/\D∉ao/\H' D=some (.lst ys)/\aF K ao H' aB ys/\bg K ads H Q (a8 (λτ M=>bq G cond τ M) (λτ M=>(ev G elt τ M).bind own) it tg m i kU M' aB),
    ⟨f,ads,M,d_ bY ρ,[],?_,(ay.refl _ _).sj hD,VI,bx,(by unfold aF;rfl),q⟩,?_⟩
  · have g0:ay ads ads H (bw H D (.lst [])):=ay.e9 s.mem hD;exact(yH s bY).grow g0 (s.mem.e9 hD)
  rintro i m τ H' ys ⟨ao,M',kU,aB,s',g',dn,hl,ra,q'⟩;refine⟨hl,?_⟩;obtain⟨r1,r2⟩:=hJ i ao H' M' g' s'.mem
  have stop:itemAt M' i it=some none->bg K ads H Q (.ok (.lv aB) M')->(J.stop i H'/\Q (.ref D) H'):=λhi q' =>
    ⟨r1 hi,q' (.ref D) H' ao g' s'.mem ⟨D,ys,rfl,hD,hl,dn,ra⟩⟩
  cases m with
  | zero =>
    unfold a8 at q';split at q'
    · rename_i hi
      exact .inl (stop hi q')
    · exact q'.elim
  | succ m =>
    unfold a8 at q';split at q'
    · rename_i hi
      exact .inl (stop hi q')
    · rename_i d hi
      obtain⟨go,yl⟩:=r2 d hi
      cases hb:bJ tg d kU with
      | none=>rw[hb]at q';exact q'.elim
      | some pO =>
        rw[hb]at q';dsimp only at q';split at q'
        · rename_i hz
          refine .inr ⟨go,by rw[<- ra.len];exact hz,λx H2 y=>?_⟩;obtain⟨g2,m2,rd⟩:=yl x H2 y;have QG:H2 D=some (.lst ys):=g2.kept D _ dn hl;refine⟨ao,M',kU,d,s'.grow g2 m2,rd,pO,hb,λzF s2=>?_⟩
          have dS : ∀ b M3 H3 cY, ay ao cY H2 H3 -> aJ K cY H3 M3 -> bg K ads H Q (if b = true then ((ev G elt pO M3).bind own).b0 fun x M => a8 (fun τ M => bq G cond τ M) (fun τ M => (ev G elt τ M).bind own) it tg m (i + 1) pO M (aB ++ [x]) else a8 (fun τ M => bq G cond τ M) (fun τ M => (ev G elt τ M).bind own) it tg m (i + 1) pO M3 aB) ->
              (if b=true then @tE never K (ev G elt) zF H3 λv H4=>H4 D=some (.lst ys)/\∃m',m'<m+1/\∃ao M' kU aB,SR K ao M' kU zF (bw H4 D (.lst (ys++[v])))/\ay ads ao H (bw H4 D (.lst (ys++[v])))/\D∉ao/\(bw H4 D (.lst (ys++[v]))) D=some (.lst (ys++[v]))/\aF K ao (bw H4 D (.lst (ys++[v]))) aB (ys++[v])/\bg K ads H Q (a8 (λτ M=>bq G cond τ M) (λτ M=>(ev G elt τ M).bind own) it tg m' (i+1) kU M' aB)
               else ∃m',m'<m+1/\∃ao M' kU aB,SR K ao M' kU zF H3/\ay ads ao H H3/\D∉ao/\H3 D=some (.lst ys)/\aF K ao H3 aB ys/\bg K ads H Q (a8 (λτ M=>bq G cond τ M) (λτ M=>(ev G elt τ M).bind own) it tg m' (i+1) kU M' aB)):=by
            intro b M3 H3 cY g3 m3 q3;have RB:D∉cY:=g3.ji dn QG;have RC:H3 D=some (.lst ys):=g3.kept D _ dn QG;have s3:=s2.grow g3 m3;have gg:=(g'.trans g2).trans g3;have Tw:=(g2.trans g3).lL _ _ ra
            cases b with
            | false =>
              rw[aR (by simp)]at q3⊢;exact⟨m,tJ _,cY,M3,pO,aB,s3,gg,RB,RC,Tw,q3⟩
            | true =>
              rw[aG rfl]at q3⊢;refine⟨cY,M3,pO,s3,?_⟩
              cases he:ev G elt pO M3 with
              | ok w M4 =>
                rw[he]at q3;intro v H4 Bp g4 m4 r4;have q3:bg K ads H Q ((own w M4).b0 λx M=>a8 (λτ M=>bq G cond τ M) (λτ M=>(ev G elt τ M).bind own) it tg m (i+1) pO M (aB++[x])):=q3;have Ph:H4 D=some (.lst ys):=g4.kept D _ RB RC;refine⟨Ph,m,tJ _,?_⟩
                cases ho:own w M4 with
                | ok dd M5 =>
                  rw[ho]at q3;obtain⟨BE,g5,m5,VJ⟩:=nw s3.mem g4 m4 r4 ho;have Tx:D∉BE:=g5.ji RB RC;have tk:TF H4 (bw H4 D (.lst (ys++[v]))):=⟨λb xs e=>by rw[ar (λz=>by subst z;rw[Ph]at e;cases e)];exact e,λb o u e=>by rw[ar (λz=>by subst z;rw[Ph]at e;cases e)];exact e,λb gs e=>by rw[ar (λz=>by subst z;rw[Ph]at e;cases e)];exact e⟩;have m6:aJ K BE (bw H4 D (.lst (ys++[v]))) M5:=m5.keep tk λa ha=>ar (λz=>by subst z;exact Tx ha)
                  have VL:MI K BE (bw H4 D (.lst (ys++[v]))) pO zF:=λj d e=>by
                    obtain⟨u,e1,r⟩:=g5.Tg s3.en j d e;exact⟨u,e1,RD.keep tk _ _ r⟩
                  exact⟨BE,M5,pO,aB++[dd],⟨m6,VL,s3.ln⟩,(gg.trans g5).sj hD,Tx,bx,aF.keep tk _ _ ((g5.lL _ _ Tw).app (.one VJ)),q3⟩
                | err _ _=>cases w<;>cases ho
                | aa=>cases w<;>cases ho
              | err _ _=>rw[he]at q3;exact q3
              | aa=>rw[he]at q3;exact q3
          cases cond with
          | none =>
            exact dS true M' H2 ao (ay.refl _ _) m2 q'
          | some t =>
            show @lD never K (cT G t) zF H2 _;refine⟨ao,M',pO,s2,?_⟩;have q':bg K ads H Q ((cT G t pO M').b0 λb M=>if b=true then ((ev G elt pO M).bind own).b0 λx M=>a8 (λτ M=>bq G (some t) τ M) (λτ M=>(ev G elt τ M).bind own) it tg m (i+1) pO M (aB++[x]) else a8 (λτ M=>bq G (some t) τ M) (λτ M=>(ev G elt τ M).bind own) it tg m (i+1) pO M aB):=q'
            cases ht:cT G t pO M' with
            | ok b M3 =>
              rw[ht]at q';intro H3 cY g3 m3;exact dS b M3 H3 cY g3 m3 q'
            | err _ _=>rw[ht]at q';exact q'
            | aa=>rw[ht]at q';exact q'
        · exact q'.elim
    · exact q'.elim
end
end
section
variable [EX]
variable {kk:Nat} {G:bf}
theorem nA{e:Expr}(h:dz e=true)(env:Env):∀x,foldedSetIterable e env x=pure x:=by
 intro x;cases e<;>first | rfl | exact absurd (show false=true from h) aD
theorem Hj{X:Cx}{cc:CC}{k:SK}{cF:List C}{tg:List Nat}{cond:Option dv}{elt:C}{bY:List (Option Nat)}{el t aC:Expr}{ifs:List Expr}{sc:Scope}{pos:Pos}(g:Good kk X cc G)(yI:oX cc sc=true)(xG:bY=kJ cc sc)(j9:dz aC=true)(yJ:PI X t aC (tI X.K (cw G k cF)))(RE:gx (mi cc sc) tg t=true)(iA:Bn (mi cc sc) cond ifs=true)(Pe:∀t,cond=some t->∀X':Cx,X'.K=X.K->@Good never kk X' (mi cc sc) G->∀e,i6 (mi cc sc) t e=true->PT X' e (@lD never X'.K (cT G t)))(VM:∀X':Cx,X'.K=X.K->@Good never kk X' (mi cc sc) G->PE X' el (@tE never X'.K (ev G elt))):∃(wi:TI) (cl:(X:Cx)->Prop),True/\PE X (.ListComp el [⟨t,aC,ifs,0⟩] sc pos) (tE X.K (ev G (.comp k cF tg cond elt bY))):=by
 refine⟨λ_ _ _=>True,λ_=>True,True.intro,?_⟩;intro pins s σ H Q I q;obtain⟨h1,h2,h3,h4,h5⟩:=jM yI
 obtain⟨cl,RF⟩:=si (X:=X) (sc:=sc) λy hy hf=>by
  obtain⟨_,ho⟩:=h5 y hy hf;refine I.ok.has y.1 ?_;rcases ho with ho | ho
  ·exact .inl (g.kinds _ _ ho)
  ·exact g.kinds _ _ ho
 have ck:iQ X sc (dy sc) bY cl t el ifs (tG X.K tg) (cond.map λt=>@lD never X.K (cT G t)) (@tE never X.K (ev G elt)):=by
  refine⟨h1,h2,h3,RF,xG▸yG g yI,λC s H fp=>(by have gb:=g.block (cl:=cl) yI C s H fp;letI:=never;exact iw gb RE),?_,λC s H fp=>VM _ rfl (g.block yI C s H fp)⟩
  cases cond with
  | none =>
   cases ifs with
   | nil=>rfl
   | cons _ _=>cases iA
  | some tt =>
   cases ifs with
   | nil=>cases iA
   | cons e es =>
    cases es with
    | cons _ _=>cases iA
    | nil=>exact⟨e,rfl,λC s H fp=>Pe tt rfl (X.block sc cl C (dy sc) s H fp []) rfl (g.block yI C s H fp) e iA⟩
 refine AM g.calm yJ ck (nA j9 X.env) pins s σ H Q I ?_;obtain⟨ads,M,ρ,sr,q⟩:=q;refine⟨ads,M,ρ,sr,?_⟩
 have q:bg X.K ads H Q ((cw G k cF ρ M).bind λit M=>a8 (λτ M=>bq G cond τ M) (λτ M=>(ev G elt τ M).bind own) it tg (bZ M it) 0 (d_ bY ρ) M []):=by
  simp only[ni]at q;unfold cw
  cases hw:cq G cF ρ M with
  | ok ws M1=>rw[hw]at q;exact q
  | err _ _=>rw[hw]at q;exact q
  | aa=>rw[hw]at q;exact q
 cases hs:cw G k cF ρ M with
 | ok it M1 =>
  rw[hs]at q;intro J H1 ae g1 m1 rj;exact o9 (sr.grow g1 m1) rj (bg.shift (o:=a8 (λτ M=>bq G cond τ M) (λτ M=>(ev G elt τ M).bind own) it tg (bZ M1 it) 0 (d_ bY ρ) M1 []) q g1 sr.mem m1)
 | err _ _=>rw[hs]at q;exact q
 | aa=>rw[hs]at q;exact q
end
theorem cK[EX]{X:Cx}{cc:CC}{G:bf}{c:C}{e:Expr}(h:(fW e&&bb cc c e)=true)(k:bb cc c e=true->PE X e (tE X.K (ev G c))):PT X e (lD X.K (cT G (.val c))):=Bs ((aA _ _).mp h).1 (k ((aA _ _).mp h).2)
mutual
theorem aI{kk:Nat}{G:bf}:∀(c:C)(ex:EX)(cc:CC)(X:Cx)(e:Expr),@Good ex kk X cc G->bb cc c e=true->PE X e (@tE ex X.K (ev G c))
 | .jC i,ex,cc,X,e,g,h=>M_ g.cu h
 | .a_ d,ex,cc,X,e,g,h=>D9 h
 | .bin op a b,ex,cc,X,e,g,h=>Na (λe h=>aI a ex cc X e g h) (λe h=>aI b ex cc X e g h) h
 | .cmp op a b,ex,cc,X,e,g,h=>(D_ g.cu (λe h=>aI a ex cc X e g h) (λe h=>aI b ex cc X e g h) h).1
 | .chain o1 o2 a b c,ex,cc,X,e,g,h=>(rY g.cu (λe h=>aI a ex cc X e g h) (λe h=>aI b ex cc X e g h) (λe h=>aI c ex cc X e g h) h).1
 | .dE cs,ex,cc,X,e,g,h=>by
  refine eg (P:=λe=>PE X e _) h λop es pos h=>?_;simp only[aA,gB,tj]at h
  cases op with
  | Or=>exact absurd h.1.1 aD
  | And=>exact eK (Eb (op:=.And) cs es pos (nB cs ex cc X g) h.1.2 h.2) λσ H Q q=>q
 | .eF cs,ex,cc,X,e,g,h=>by
  refine eg (P:=λe=>PE X e _) h λop es pos h=>?_;simp only[aA,gB,tj]at h
  cases op with
  | And=>exact absurd h.1.1.symm aD
  | Or=>exact eK (Nh cs es pos (nB cs ex cc X g) h.1.2 h.2) λσ H Q q=>q
 | .neg a,ex,cc,X,e,g,h=>Nb (λe h=>aI a ex cc X e g h) h
 | .ite t a b,ex,cc,X,e,g,h=>qt (P:=λe=>PE X e _) h λc x y pos h=>by
  simp only[aA]at h;exact Nk (uM t ex cc X c g h.1.1) (aI a ex cc X x g h.1.2) (aI b ex cc X y g h.2)
 | .tup cs,ex,cc,X,e,g,h=>Nc (λes h=>mm cs ex cc X es g h) h
 | .lst cs,ex,cc,X,e,g,h=>Nd (λes h=>mm cs ex cc X es g h) h
 | .sub a b,ex,cc,X,e,g,h=>cO (P:=λe=>PE X e _) h λe i pos h=>by
  simp only[aA]at h;exact Nl g.cu h.1.1 (aI a ex cc X e g h.1.2) (aI b ex cc X i g h.2)
 | .rM a lo hi,ex,cc,X,e,g,h=>cO (P:=λe=>PE X e _) h λe i pos h=>qw (P:=λi=>PE X (.Subscript e i pos) _) h λl u st p h=>by
  simp only[aA]at h
  cases st with
  | some _=>exact absurd h.1.1.1 aD
  | none=>exact Nm (aI a ex cc X e g h.1.1.2) (NB lo ex cc X l g h.1.2) (NB hi ex cc X u g h.2)
 | .call f cs,ex,cc,X,e,g,h=>bU (P:=λe=>PE X e _) h λfe args dr pos h=>aQ (P:=λfe=>PE X (.Call fe args dr pos) _) h λx p h=>by
  rcases args with _|⟨e,es⟩<;>first | exact absurd h aD | skip
  cases dr<;>first | exact absurd h aD | skip
  simp only[aA,dQ]at h;exact G_ g h.1.1.1 h.1.1.2 h.1.2 h.2 (mm cs ex cc X (e::es) g h.2)
 | .xf a f,_,_,_,_,_,h=>absurd (show false=true from h) aD
 | .AX a k tb,_,_,_,_,_,h=>absurd (show false=true from h) aD
 | .jj f cs,_,_,_,_,_,h=>absurd (show false=true from h) aD
 | .bi b cs,ex,cc,X,e,g,h=>bU (P:=λe=>PE X e _) h λfe args dr pos h0=>aQ (P:=λfe=>PE X (.Call fe args dr pos) _) h0 λx p h=>by
  clear h0
  replace h:=(aA _ _).mp h
  have h1:=h.1
  replace h:=h.2
  simp only[aA,tK]at h1;obtain⟨⟨rfl,hx⟩,hg⟩:=h1
  cases hb:yn b with
  | none =>
   rw[hb]at h;rcases args with _|⟨e,es⟩<;>first | exact absurd h aD | skip
   replace h:=(aA _ _).mp h
   have lW:az e=true/\bE cc cs.tail es=true:=by
    cases cs with
    | nil=>exact absurd h.2 aD
    | cons c cs =>
     have h':(az e&&bb cc c e&&bE cc cs es)=true:=h.2;simp only[aA]at h';exact⟨h'.1.1,h'.2⟩
   exact Ru g h.1 (eq_of_beq hx) hg lW.1 lW.2 (Eh cs ex cc X (e::es) g h.2)
  | some t =>
   rw[hb]at h;obtain rfl:=qz hb;rcases args with _|⟨e,_|⟨f,_|⟨f2,fs⟩⟩⟩<;>first | exact absurd h aD | skip
   replace h:=(aA _ _).mp h
   refine aQ (P:=λf=>PE X (.Call (.Name x p) [e,f] [] pos) _) h.1 λy py hy=>?_;simp only[aA,nU]at hy;rcases cs with _|⟨c,_|⟨c2,cs⟩⟩
   ·exact absurd h.2 aD
   ·have h7:(az e&&bb cc c e&&true)=true:=h.2;simp only[aA]at h7;exact Nr g.cu (eq_of_beq hx) hg (eq_of_beq hy.1.1) hy.1.2 hy.2 h7.1.1 (aI c ex cc X e g h7.1.2)
   ·have h7:(az e&&bb cc c e&&bE cc (c2::cs) [])=true:=h.2;simp only[aA]at h7;exact absurd h7.2 aD
 | .me m o cs,ex,cc,X,e,g,h=>bU (P:=λe=>PE X e _) h λfe args dr pos h=>dZ (P:=λfe=>PE X (.Call fe args dr pos) _) h λe n ap h=>by
  simp only[aA,tK]at h;obtain⟨⟨⟨⟨⟨⟨⟨rfl,h1⟩,h2⟩,h3⟩,h4⟩,h5⟩,h6⟩,h7⟩:=h;exact Rz (by have:=g.rh.un;omega) (eq_of_beq h1) h2 h3 h4 h6 (of_decide_eq_true h7) (aI o ex cc X e g h5) (mm cs ex cc X args g h6)
 | .uZ ks cs,ex,cc,X,e,g,h=>uI (P:=λe=>PE X e _) h λkeys vs pos h=>by
  simp only[vk,aA,gB,tj,nU,tK]at h;rcases h with⟨⟨⟨⟨⟨h1,h2⟩,h3⟩,h4⟩,h5⟩,h6⟩|⟨⟨⟨rfl,rfl⟩,rfl⟩,rfl⟩
  ·exact Nz h1 h2 h3 h4 h5 h6 (nB cs ex cc X g)
  ·exact Hh
 | .gZ tp cs,_,_,_,_,_,h=>absurd (show false=true from h) aD
 | .uy x v,ex,cc,X,e,g,h=>aQ (P:=λe=>PE X e _) h λy pos h=>by
  simp only[aA,dQ]at h;obtain⟨⟨⟨rfl,h1⟩,h2⟩,h3⟩:=h;exact Ny g.cu h1 h2 h3
 | .lM ng a,_,_,_,_,_,h=>absurd (show false=true from h) aD
 | .qj x v,ex,cc,X,e,g,h=>aQ (P:=λe=>PE X e _) h λy pos h=>by
  simp only[aA,dQ]at h;obtain⟨⟨⟨rfl,h1⟩,h2⟩,h3⟩:=h;exact Np g h1 h2 (va.mp h3)
 | .lN pt a b,ex,cc,X,e,g,h=>bU (P:=λe=>PE X e _) h λfe args dr pos h=>dZ (P:=λfe=>PE X (.Call fe args dr pos) _) h λe n ap h=>by
  rcases args with _|⟨x,_|⟨x2,xs⟩⟩<;>first | exact absurd h aD | skip
  cases dr<;>first | exact absurd h aD | skip
  simp only[aA]at h;obtain⟨⟨⟨⟨⟨h1,h2⟩,h3⟩,h4⟩,h5⟩,h6⟩:=h;exact Nw (eq_of_beq h1) h2 h3 h4 h6 (aI a ex cc X e g h5) (aI b ex cc X x g h6)
 | .uz lit a b,ex,cc,X,e,g,h=>oV (P:=λe=>PE X e _) h λvs pos h=>by
  rcases vs with _|⟨v1,_|⟨v2,_|⟨v3,_|⟨v4,vs⟩⟩⟩⟩<;>first | exact absurd h aD | skip
  refine oW (P:=λv1=>PE X (.JoinedStr [v1,v2,v3] pos) _) h λe1 c1 s1 p1 h=>oW (P:=λv3=>PE X (.JoinedStr [.FormattedValue e1 c1 s1 p1,v2,v3] pos) _) h λe3 c3 s3 p3 h=>?_;simp only[aA,dQ,Option.isNone_iff_eq_none]at h;obtain⟨⟨⟨⟨⟨⟨rfl,rfl⟩,rfl⟩,rfl⟩,h5⟩,h6⟩,h7⟩:=h;exact Nx h5 (aI a ex cc X e1 g h6) (aI b ex cc X e3 g h7)
 | .qi cC a,ex,cc,X,e,g,h=>bU (P:=λe=>PE X e _) h λfe args dr pos h=>dZ (P:=λfe=>PE X (.Call fe args dr pos) _) h λo n ap h=>by
  rcases args with _|⟨x,_|⟨a2,as⟩⟩<;>first | exact absurd h aD | skip
  cases dr<;>first | exact absurd h aD | skip
  simp only[aA]at h;obtain⟨⟨⟨⟨⟨h1,h2⟩,h3⟩,h4⟩,h5⟩,h6⟩:=h;exact Nu (eq_of_beq h1) h2 h3 h4 h5 h6 (aI a ex cc X x g h6)
 | .cat a b,ex,cc,X,e,g,h=>Ng (λe h=>aI a ex cc X e g h) (λe h=>aI b ex cc X e g h) h
 | .ib x tt b,ex,cc,X,e,g,h=>cO (P:=λe=>PE X e _) h λo i pos h=>by
  simp only[aA]at h;obtain⟨⟨⟨h1,h2⟩,h3⟩,h4⟩:=h;refine aQ (P:=λo=>PE X (.Subscript o i pos) _) h2 λy p h2=>?_;simp only[aA,dQ]at h2;obtain⟨⟨rfl,k1⟩,k2⟩:=h2;exact Bq g.cu k1 k2 (va.mp h3) (kM h1) (aI b ex cc X i g h4)
 | .lO x tt a,ex,cc,X,e,g,h=>(Ea g.cu (λe h=>aI a ex cc X e g h) h).1
 | .u4 a,ex,cc,X,e,g,h=>bU (P:=λe=>PE X e _) h λfe args dr pos h=>aQ (P:=λfe=>PE X (.Call fe args dr pos) _) h λx p h=>by
  rcases args with _|⟨u,_|⟨v,_|⟨_,_⟩⟩⟩<;>first | exact absurd h aD | skip
  cases dr<;>first | exact absurd h aD | skip
  simp only[aA]at h;obtain⟨⟨⟨⟨h1,h2⟩,h3⟩,h4⟩,h5⟩:=h;refine fc (P:=λv=>PE X (.Call (.Name x p) [u,v] [] pos) _) h5 λes kt pt h5=>?_;rcases es with _|⟨b,_|⟨c,_|⟨_,_⟩⟩⟩<;>first | exact absurd h5 aD | skip
  obtain⟨h6,h7⟩:=(aA _ _).mp h5;refine aQ (P:=λb=>PE X (.Call (.Name x p) [u,.Tuple [b,c] kt pt] [] pos) _) h6 λy py h6=>aQ (P:=λc=>PE X (.Call (.Name x p) [u,.Tuple [.Name y py,c] kt pt] [] pos) _) h7 λz pz h7=>?_;simp only[aA]at h6 h7;exact Nt g.cu (eq_of_beq h1) h2 (eq_of_beq h6.1) h6.2 (eq_of_beq h7.1) h7.2 h3 (aI a ex cc X u g h4)
 | .oK y a,ex,cc,X,e,g,h=>aQ (P:=λe=>PE X e _) h λx p h=>by
  simp only[aA,dQ]at h;obtain⟨⟨⟨rfl,h1⟩,h2⟩,h3⟩:=h;exact Nn g h1 h2 (va.mp h3)
 | .cM i tb cs,ex,cc,X,e,g,h=>bU (P:=λe=>PE X e _) h λfe args dr pos h=>aQ (P:=λfe=>PE X (.Call fe args dr pos) _) h λx p h=>by
  rcases args with _|⟨e,es⟩<;>first | exact absurd h aD | skip
  cases dr<;>first | exact absurd h aD | skip
  simp only[aA,dQ]at h;exact Bt g h.1.1.1.1 h.1.1.1.2 h.1.1.2 h.1.2 h.2 (mm cs ex cc X (e::es) g h.1.2)
 | .comp k cF tg cond elt bY,ex,cc,X,e,g,h=>gw (P:=λe=>PE X e _) h λel gens sc pos h=>by
  rcases gens with _|⟨⟨t,aC,ifs,as⟩,_|⟨_,_⟩⟩<;>first | exact absurd h aD | skip
  simp only[aA,dQ,nU]at h;obtain⟨⟨⟨⟨⟨⟨rfl,h1⟩,h2⟩,h3⟩,h4⟩,h5⟩,h6⟩:=h;obtain⟨yJ,j9⟩:=qD cF k ex cc X t aC g h3;obtain⟨_,_,_,r⟩:=Hj (pos:=pos) g h1 h2 j9 yJ h4 h5 (λt ht X' _ g' e he=>BF cond never (mi cc sc) X' g' t ht e he) (λX' _ g'=>aI elt never (mi cc sc) X' el g' h6);exact r
theorem uM{kk:Nat}{G:bf}:∀(t:dv)(ex:EX)(cc:CC)(X:Cx)(e:Expr),@Good ex kk X cc G->i6 cc t e=true->PT X e (@lD ex X.K (cT G t))
 | .val (.cmp op a b),ex,cc,X,e,g,h=>qB G7 (D_ g.cu (λe h=>aI a ex cc X e g h) (λe h=>aI b ex cc X e g h) h).2
 | .val (.chain o1 o2 a b c),ex,cc,X,e,g,h=>qB yu (rY g.cu (λe h=>aI a ex cc X e g h) (λe h=>aI b ex cc X e g h) (λe h=>aI c ex cc X e g h) h).2
 | .val (.jC i),ex,cc,X,e,g,h=>cK h (aI (.jC i) ex cc X e g)
 | .val (.a_ d),ex,cc,X,e,g,h=>cK h (aI (.a_ d) ex cc X e g)
 | .val (.bin op a b),ex,cc,X,e,g,h=>cK h (aI (.bin op a b) ex cc X e g)
 | .val (.dE cs),ex,cc,X,e,g,h=>cK h (aI (.dE cs) ex cc X e g)
 | .val (.eF cs),ex,cc,X,e,g,h=>cK h (aI (.eF cs) ex cc X e g)
 | .val (.neg a),ex,cc,X,e,g,h=>cK h (aI (.neg a) ex cc X e g)
 | .val (.ite t a b),ex,cc,X,e,g,h=>cK h (aI (.ite t a b) ex cc X e g)
 | .val (.tup cs),ex,cc,X,e,g,h=>cK h (aI (.tup cs) ex cc X e g)
 | .val (.lst cs),ex,cc,X,e,g,h=>cK h (aI (.lst cs) ex cc X e g)
 | .val (.sub a b),ex,cc,X,e,g,h=>cK h (aI (.sub a b) ex cc X e g)
 | .val (.rM a lo hi),ex,cc,X,e,g,h=>cK h (aI (.rM a lo hi) ex cc X e g)
 | .val (.call f cs),ex,cc,X,e,g,h=>cK h (aI (.call f cs) ex cc X e g)
 | .val (.bi b cs),ex,cc,X,e,g,h=>cK h (aI (.bi b cs) ex cc X e g)
 | .val (.me m o cs),ex,cc,X,e,g,h=>cK h (aI (.me m o cs) ex cc X e g)
 | .val (.uZ ks cs),ex,cc,X,e,g,h=>cK h (aI (.uZ ks cs) ex cc X e g)
 | .val (.gZ tp cs),ex,cc,X,e,g,h=>cK h (aI (.gZ tp cs) ex cc X e g)
 | .val (.lM ng a),_,_,_,_,_,h=>absurd (show false=true from h) aD
 | .val (.uy x v),ex,cc,X,e,g,h=>cK h (aI (.uy x v) ex cc X e g)
 | .val (.qj x v),ex,cc,X,e,g,h=>cK h (aI (.qj x v) ex cc X e g)
 | .val (.lN pt a b),ex,cc,X,e,g,h=>cK h (aI (.lN pt a b) ex cc X e g)
 | .val (.uz lit a b),ex,cc,X,e,g,h=>cK h (aI (.uz lit a b) ex cc X e g)
 | .val (.qi cC a),ex,cc,X,e,g,h=>cK h (aI (.qi cC a) ex cc X e g)
 | .val (.cat a b),ex,cc,X,e,g,h=>cK h (aI (.cat a b) ex cc X e g)
 | .val (.ib x tt b),ex,cc,X,e,g,h=>cK h (aI (.ib x tt b) ex cc X e g)
 | .val (.lO x tt a),ex,cc,X,e,g,h=>qB G6 (Ea g.cu (λe h=>aI a ex cc X e g h) h).2
 | .val (.u4 a),ex,cc,X,e,g,h=>cK h (aI (.u4 a) ex cc X e g)
 | .val (.oK y a),ex,cc,X,e,g,h=>cK h (aI (.oK y a) ex cc X e g)
 | .val (.cM i tb cs),ex,cc,X,e,g,h=>cK h (aI (.cM i tb cs) ex cc X e g)
 | .val (.xf a f),ex,cc,X,e,g,h=>cK h (aI (.xf a f) ex cc X e g)
 | .val (.AX a k tb),ex,cc,X,e,g,h=>cK h (aI (.AX a k tb) ex cc X e g)
 | .val (.jj f cs),ex,cc,X,e,g,h=>cK h (aI (.jj f cs) ex cc X e g)
 | .val (.comp k cF tg cond elt bY),ex,cc,X,e,g,h=>cK h (aI (.comp k cF tg cond elt bY) ex cc X e g)
 | .dE ts,ex,cc,X,e,g,h=>by
  refine eg (P:=λe=>PT X e _) h λop es pos h=>?_;simp only[aA,gB,tj]at h
  cases op with
  | Or=>exact absurd h.1.1 aD
  | And=>exact D8 (Ec ts es pos (yK ts ex cc X g) h.1.2 h.2).pt λσ H Q q=>q
 | .eF ts,ex,cc,X,e,g,h=>by
  refine eg (P:=λe=>PT X e _) h λop es pos h=>?_;simp only[aA,gB,tj]at h
  cases op with
  | And=>exact absurd h.1.1.symm aD
  | Or=>exact D8 (Ed ts es pos (yK ts ex cc X g) h.1.2 h.2).pt λσ H Q q=>q
 | .neg t,ex,cc,X,e,g,h=>by
  refine dI (P:=λe=>PT X e _) h λop x pos h=>?_
  replace h:=(aA _ _).mp h
  cases op<;>first | exact absurd h.1 aD | skip
  exact Nj (uM t ex cc X x g h.2)
theorem mm{kk:Nat}{G:bf}:∀(cs:List C)(ex:EX)(cc:CC)(X:Cx)(es:List Expr),@Good ex kk X cc G->bE cc cs es=true->PA X es (@zI ex X.K (a9 G cs))
 | [],ex,cc,X,[],g,h=>Nf
 | [],ex,cc,X,_::_,g,h=>by cases h
 | _::_,ex,cc,X,[],g,h=>by cases h
 | c::cs,ex,cc,X,e::es,g,h=>by
  have h':(az e&&bb cc c e&&bE cc cs es)=true:=h;simp only[aA]at h';exact G5 h'.1.1 (aI c ex cc X e g h'.1.2) (mm cs ex cc X es g h'.2)
theorem Eh{kk:Nat}{G:bf}:∀(cs:List C)(ex:EX)(cc:CC)(X:Cx)(es:List Expr),@Good ex kk X cc G->bE cc cs es=true->PA X es (@Hc ex X.K (cq G cs))
 | [],ex,cc,X,[],g,h=>r6
 | [],ex,cc,X,_::_,g,h=>by cases h
 | _::_,ex,cc,X,[],g,h=>by cases h
 | c::cs,ex,cc,X,e::es,g,h=>by
  have h':(az e&&bb cc c e&&bE cc cs es)=true:=h;simp only[aA]at h';exact nz h'.1.1 (aI c ex cc X e g h'.1.2) (Eh cs ex cc X es g h'.2)
theorem nB{kk:Nat}{G:bf}:∀(cs:List C)(ex:EX)(cc:CC)(X:Cx),@Good ex kk X cc G->∀c∈cs,∀e,bb cc c e=true->PE X e (@tE ex X.K (ev G c))
 | [],ex,cc,X,g,c,hc,e,h=>by cases hc
 | c::cs,ex,cc,X,g,c',hc,e,h=>by
  rcases bF.mp hc with z | z
  ·rw[z]at h⊢;exact aI c ex cc X e g h
  ·exact nB cs ex cc X g c' z e h
theorem yK{kk:Nat}{G:bf}:∀(ts:List dv)(ex:EX)(cc:CC)(X:Cx),@Good ex kk X cc G->∀t∈ts,∀e,i6 cc t e=true->PT X e (@lD ex X.K (cT G t))
 | [],ex,cc,X,g,c,hc,e,h=>by cases hc
 | c::cs,ex,cc,X,g,c',hc,e,h=>by
  rcases bF.mp hc with z | z
  ·rw[z]at h⊢;exact uM c ex cc X e g h
  ·exact yK cs ex cc X g c' z e h
theorem NB{kk:Nat}{G:bf}:∀(o:Option C)(ex:EX)(cc:CC)(X:Cx)(e:Option Expr),@Good ex kk X cc G->G3 cc o e=true->PO X e (@tO ex X.K (nN G o))
 | none,ex,cc,X,none,g,h=>G8
 | none,ex,cc,X,some _,g,h=>by cases h
 | some _,ex,cc,X,none,g,h=>by cases h
 | some c,ex,cc,X,some e,g,h=>G9 (aI c ex cc X e g h)
theorem BF{kk:Nat}{G:bf}:∀(o:Option dv)(ex:EX)(cc:CC)(X:Cx),@Good ex kk X cc G->∀t,o=some t->∀e,i6 cc t e=true->PT X e (@lD ex X.K (cT G t))
 | none,ex,cc,X,g,t,ht,e,h=>by cases ht
 | some c,ex,cc,X,g,t,ht,e,h=>by cases ht;exact uM c ex cc X e g h
theorem qD{kk:Nat}{G:bf}:∀(cF:List C)(k:SK)(ex:EX)(cc:CC)(X:Cx)(t aC:Expr),@Good ex kk X cc G->nr cc k cF t aC=true->PI X t aC (@tI ex X.K (cw G k cF))/\dz aC=true
 | [],k,ex,cc,X,t,aC,g,h=>by cases k<;>cases h
 | [c],.seq,ex,cc,X,t,aC,g,h=>by
  have h':(dz aC&&bb cc c aC)=true:=h;simp only[aA]at h';exact⟨BB (aI c ex cc X aC g h'.2),h'.1⟩
 | [c],.vals,ex,cc,X,t,aC,g,h=>by cases h
 | [c],.keys,ex,cc,X,t,aC,g,h=>by cases h
 | [c],.rng1,ex,cc,X,t,aC,g,h=>by
  refine bU (P:=λaC=>PI X t aC _/\dz aC=true) h λfe args dr pos h=>aQ (P:=λfe=>PI X t (.Call fe args dr pos) _/\dz (.Call fe args dr pos)=true) h λx p h=>?_;rcases args with _|⟨a,_|⟨a2,as⟩⟩<;>first | exact absurd h aD | skip
  cases dr<;>first | exact absurd h aD | skip
  simp only[aA]at h;exact⟨yE g (eq_of_beq h.1.1.1) h.1.1.2 h.1.2 (aI c ex cc X a g h.2),rfl⟩
 | [c],.enum,ex,cc,X,t,aC,g,h=>by cases h
 | [c],.rng2,ex,cc,X,t,aC,g,h=>by cases h
 | [c],.zip,ex,cc,X,t,aC,g,h=>by cases h
 | [c],.AW,ex,cc,X,t,aC,g,h=>by cases h
 | [c,d],.rng2,ex,cc,X,t,aC,g,h=>by
  refine bU (P:=λaC=>PI X t aC _/\dz aC=true) h λfe args dr pos h=>aQ (P:=λfe=>PI X t (.Call fe args dr pos) _/\dz (.Call fe args dr pos)=true) h λx p h=>?_;rcases args with _|⟨a,_|⟨b,_|⟨a2,as⟩⟩⟩<;>first | exact absurd h aD | skip
  cases dr<;>first | exact absurd h aD | skip
  simp only[aA]at h;exact⟨yF g (eq_of_beq h.1.1.1.1.1) h.1.1.1.1.2 h.1.1.1.2 h.1.1.2 (aI c ex cc X a g h.1.2) (aI d ex cc X b g h.2),rfl⟩
 | [c,d],.seq,ex,cc,X,t,aC,g,h=>by cases h
 | [c,d],.AW,ex,cc,X,t,aC,g,h=>by cases h
 | [c,d],.keys,ex,cc,X,t,aC,g,h=>by cases h
 | [c,d],.vals,ex,cc,X,t,aC,g,h=>by cases h
 | [c,d],.rng1,ex,cc,X,t,aC,g,h=>by cases h
 | [c,d],.enum,ex,cc,X,t,aC,g,h=>by cases h
 | [c,d],.zip,ex,cc,X,t,aC,g,h=>by
  refine bU (P:=λaC=>PI X t aC _/\dz aC=true) h λfe args dr pos h=>aQ (P:=λfe=>PI X t (.Call fe args dr pos) _/\dz (.Call fe args dr pos)=true) h λx p h=>?_;rcases args with _|⟨a,_|⟨b,_|⟨a2,as⟩⟩⟩<;>first | exact absurd h aD | skip
  cases dr<;>first | exact absurd h aD | skip
  simp only[aA]at h;exact⟨BD g (eq_of_beq h.1.1.1.1.1) h.1.1.1.1.2 h.1.1.1.2 h.1.1.2 (aI c ex cc X a g h.1.2) (aI d ex cc X b g h.2),rfl⟩
 | [c,d,m],.AW,ex,cc,X,t,aC,g,h=>by cases h
 | [c,d,m],.seq,ex,cc,X,t,aC,g,h=>by cases h
 | [c,d,m],.keys,ex,cc,X,t,aC,g,h=>by cases h
 | [c,d,m],.vals,ex,cc,X,t,aC,g,h=>by cases h
 | [c,d,m],.rng1,ex,cc,X,t,aC,g,h=>by cases h
 | [c,d,m],.rng2,ex,cc,X,t,aC,g,h=>by cases h
 | [c,d,m],.enum,ex,cc,X,t,aC,g,h=>by cases h
 | [c,d,m],.zip,ex,cc,X,t,aC,g,h=>by cases h
 | _::_::_::_::_,k,ex,cc,X,t,aC,g,h=>by cases k<;>cases h
end
section
variable [EX]
set_option genCtorIdx false in
inductive TB where
 | asg (i f:Nat) (cs:List C) | Hk (i f:Nat) (cs:List C) | exp (f:Nat) (cs:List C) | RG (i f:Nat) (cs:List C) | RH (i f:Nat) (cs:List C)
noncomputable def TB.fn:TB->Nat
 | .asg _ f _=>f
 | .Hk _ f _=>f
 | .exp f _=>f
 | .RG _ f _=>f
 | .RH _ f _=>f
noncomputable def TB.args:TB->List C
 | .asg _ _ cs=>cs
 | .Hk _ _ cs=>cs
 | .exp _ cs=>cs
 | .RG _ _ cs=>cs
 | .RH _ _ cs=>cs
set_option genCtorIdx false in
inductive S where
 | asg (tg:List Nat) (c:C)
 | i_ (i:Nat) (c:C)
 | put (o i v:C)
 | dput (o i v:C)
 | par (i j:Nat) (a b:C)
 | expr (c:C)
 | ret (c:C)
 | yL
 | iff (t:dv) (a b:List S)
 | gk (tg:List Nat) (k:SK) (cF:List C) (b:List S)
 | Hl (n:Nat) (t:dv) (b:List S)
 | Hm (a:Addr) (fs:List Str) (cs:List C)
 | uN (b:TB) (cb:Str) (mt:List (Addr×List Str)) (j:Nat) (h:List S)
 | jE (r:Bool) (c:C)
 | never | pass | brk | cont
inductive aM where
 | nx (ρ:En) (M:ab) | rt (w:W) (M:ab) | bk (ρ:En) (M:ab) | ct (ρ:En) (M:ab) | er (x:xT) (M:ab) | aa
noncomputable def aM.eT{α:Type}(o:bp α)(f:α->ab->aM):aM:=match o with
 | .ok a M=>f a M
 | .err x M=>.er x M
 | .aa=>.aa
noncomputable def aM.VN(j:Nat)(o:aM):aM:=match o with
 | .nx ρ M=>.nx (ρ.set j none) M
 | _=>.aa
noncomputable def aM.tn(r:Bool)(w:W)(ρ:En)(M:ab):aM:=match r with
 | true=>.rt w M
 | false=>.nx ρ M
def TB.got(b:TB)(w:W)(M:ab)(ρ:En):aM:=match b with
 | .asg i _ _=>aM.eT (own w M) λd M=>.nx (ρ.set i (some d)) M
 | .Hk i _ _=>aM.eT (own w M) λd M=>.nx (ρ.set i (some (.tup [d]))) M
 | .exp _ _=>.nx ρ M
 | .RG i _ _=>match w with
  | .d (.bl b)=>.nx (if b=true then ρ.set i (some .br) else ρ) M
  | _=>.aa
 | .RH i _ _=>match w with
  | .d (.bl b)=>.nx (ρ.set i (some (.bl b))) M
  | _=>.aa
noncomputable def aM.seq(o:aM)(f:En->ab->aM):aM:=match o with
 | .nx ρ M=>f ρ M
 | o=>o
def cU(body:En->ab->aM)(it:Ev.It)(tg:List Nat):Nat->Nat->En->ab->aM
 | 0,i,ρ,M=>match itemAt M i it with
  | some none=>.nx ρ M
  | _=>.aa
 | f+1,i,ρ,M=>match itemAt M i it with
  | some none=>.nx ρ M
  | some (some d)=>match bJ tg d ρ with
   | none=>.aa
   | some ρ=>match body ρ M with
    | .nx ρ M=>cU body it tg f (i+1) ρ M
    | .ct ρ M=>cU body it tg f (i+1) ρ M
    | .bk ρ M=>.nx ρ M
    | .rt w M=>.rt w M
    | .er x M=>.er x M
    | .aa=>.aa
  | none=>.aa
noncomputable def uO(Hn:En->ab->bp Bool)(body:En->ab->aM):Nat->En->ab->aM
  | 0,_,_=>.aa
  | f+1,ρ,M=>match Hn ρ M with
    | .ok r M => if r then (match body ρ M with
        | .nx ρ M=>uO Hn body f ρ M
        | .ct ρ M=>uO Hn body f ρ M
        | .bk ρ M=>.nx ρ M
        | .rt w M=>.rt w M
        | .er x M=>.er x M
        | .aa=>.aa) else .nx ρ M
    | .err x M=>.er x M
    | .aa=>.aa
mutual
noncomputable def fK(G:bf):S->En->ab->aM
 | .asg tg c,ρ,M=>aM.eT ((ev G c ρ M).bind own) λd M=>match bJ tg d ρ with
  | some ρ=>.nx ρ M
  | none=>.aa
 | .i_ i c,ρ,M=>aM.eT ((ev G c ρ M).bind own) λd M=>.nx (ρ.set i (some d)) M
 | .put o i v,ρ,M=>aM.eT ((ev G v ρ M).bind own) λd M=>aM.eT (ev G o ρ M) λx M=>aM.eT (ev G i ρ M) λy M=>aM.eT (ik x y d M) λ_ M=>.nx ρ M
 | .dput o i v,ρ,M=>aM.eT ((ev G v ρ M).bind own) λd M=>aM.eT (ev G o ρ M) λx M=>aM.eT (ev G i ρ M) λy M=>aM.eT (rN x y d M) λ_ M=>.nx ρ M
 | .par i j a b,ρ,M=>aM.eT (a9 G [a,b] ρ M) λds M=>match ds with
  | [x,y]=>.nx ((ρ.set i (some x)).set j (some y)) M
  | _=>.aa
 | .expr c,ρ,M=>aM.eT (ev G c ρ M) λ_ M=>.nx ρ M
 | .ret c,ρ,M=>aM.eT (ev G c ρ M) λw M=>.rt w M
 | .yL,_,M=>.rt (.d .br) M
 | .iff t a b,ρ,M=>aM.eT (cT G t ρ M) λr M=>if r then bX G a ρ M else bX G b ρ M
 | .gk tg k cF b,ρ,M=>aM.eT (cw G k cF ρ M) λit M=>cU (λρ M=>bX G b ρ M) it tg (bZ M it) 0 ρ M
 | .Hl n t b,ρ,M=>uO (λρ M=>cT G t ρ M) (λρ M=>bX G b ρ M) n ρ M
 | .Hm a f c,ρ,M=>aM.eT (a9 G c ρ M) λds M=>.er ⟨a,f.zip ds⟩ M
 | .uN b _ mt j h,ρ,M=>match a9 G b.args ρ M with
  | .ok ds M1=>match G b.fn ds M1 with
   | .ok w M2=>b.got w M2 ρ
   | .err x M2=>if mt.lookup x.cls=some (x.fs.map (·.1)) then (bX G h (ρ.set j (some (.aX M2.length))) (M2++[.xc x.cls x.fs])).VN j else .aa
   | .aa=>.aa
  | _=>.aa
 | .jE r c,ρ,M=>match ev G c ρ M with
  | .ok w M=>aM.tn r w ρ M
  | _=>.aa
 | .never,_,_=>.aa
 | .pass,ρ,M=>.nx ρ M
 | .brk,ρ,M=>.bk ρ M
 | .cont,ρ,M=>.ct ρ M
noncomputable def bX(G:bf):List S->En->ab->aM
 | [],ρ,M=>.nx ρ M
 | s::ss,ρ,M=>(fK G s ρ M).seq λρ M=>bX G ss ρ M
end
section
variable {G:bf} {lo hi:Option C} {cond:Option dv}
theorem sk : fK G (.asg tg c) ρ M = (aM.eT ((ev G c ρ M).bind own) fun d M => match bJ tg d ρ with
    | some ρ=>.nx ρ M
    | none=>.aa):=rfl
theorem o_:fK G (.i_ i c) ρ M=aM.eT ((ev G c ρ M).bind own) λd M=>.nx (ρ.set i (some d)) M:=rfl
theorem sm:fK G (.put o i v) ρ M=aM.eT ((ev G v ρ M).bind own) λd M=>aM.eT (ev G o ρ M) λx M=>aM.eT (ev G i ρ M) λy M=>aM.eT (ik x y d M) λ_ M=>.nx ρ M:=rfl
theorem yM:fK G (.dput o i v) ρ M=aM.eT ((ev G v ρ M).bind own) λd M=>aM.eT (ev G o ρ M) λx M=>aM.eT (ev G i ρ M) λy M=>aM.eT (rN x y d M) λ_ M=>.nx ρ M:=rfl
theorem BG : fK G (.par i j a b) ρ M = (aM.eT (a9 G [a, b] ρ M) fun ds M => match ds with
    | [x,y]=>.nx ((ρ.set i (some x)).set j (some y)) M
    | _=>.aa):=rfl
theorem pb:fK G (.expr c) ρ M=aM.eT (ev G c ρ M) λ_ M=>.nx ρ M:=rfl
theorem su:fK G (.ret c) ρ M=aM.eT (ev G c ρ M) λw M=>.rt w M:=rfl
theorem sv:fK G (.iff t a b) ρ M=aM.eT (cT G t ρ M) λr M=>if r then bX G a ρ M else bX G b ρ M:=rfl
theorem pd:fK G (.gk tg k cF b) ρ M=aM.eT (cw G k cF ρ M) λit M=>cU (λρ M=>bX G b ρ M) it tg (bZ M it) 0 ρ M:=rfl
theorem BH:fK G (.Hl n t b) ρ M=uO (λρ M=>cT G t ρ M) (λρ M=>bX G b ρ M) n ρ M:=rfl
theorem BI{f:List Str}{c:List C}:fK G (.Hm a f c) ρ M=aM.eT (a9 G c ρ M) λds M=>.er ⟨a,f.zip ds⟩ M:=rfl
theorem pe {r : Bool} {c : C} : fK G (.jE r c) ρ M = (match ev G c ρ M with
    | .ok w M=>aM.tn r w ρ M
    | _=>.aa):=rfl
theorem pf:bX G [] ρ M=.nx ρ M:=rfl
theorem mn:bX G (s::ss) ρ M=(fK G s ρ M).seq λρ M=>bX G ss ρ M:=rfl
end
noncomputable def cZ(e:Expr):Bool:=Nat.beq e.ctorIdx 8||(Nat.beq e.ctorIdx 9||Nat.beq e.ctorIdx 10)
def Ei(cc:CC)(t v:Expr):Bool:=(!cZ v && !(jL t&&jL v))||bD t λx _=>cc.names.lookup x==some .cell
noncomputable def yN(e:Stmt)(f:List Stmt->List ExceptHandler->List Stmt->List Stmt->Pos->Bool):Bool:=if h:e.ctorIdx=17 then Stmt.Try.elim (motive_2:=λ_=>Bool) e h f else false
theorem yO{P:Stmt->Prop}{e:Stmt}{f:List Stmt->List ExceptHandler->List Stmt->List Stmt->Pos->Bool}(h:yN e f=true)(k:∀a b c d e,f a b c d e=true->P (.Try a b c d e)):P e :=
 Stmt.Try.elim (motive_2:=λe=>yN e f=true->P e) e (bA h) (λa b c d e h=>k a b c d e h) h
mutual
noncomputable def Ho(cc:CC):S->Stmt->Bool
 | .asg tg c,s=>fH s λts v _=>match ts with
  | [t]=>gx cc tg t&&Ei cc t v&&(!cZ v||Nat.beq v.ctorIdx 8)&&bb cc c v
  | _=>false
 | .i_ i c,s=>fH s λts v _=>match ts with
  | [t]=>bD t λx p=>e_ v λel gens sc q=>cc.N[i]? == some x&&cc.names.lookup x==some .local&&p.line==q.line && !(sc.names.any λ(n,k)=>n==x&&(k == .local||k == .cell))&&bb cc c (.ListComp el gens sc q)
  | _=>false
 | .put o i v,s=>fH s λts w _=>match ts with
  | [t]=>cH t λe f _=>fV f&&bb cc o e&&bb cc i f&&bb cc v w
  | _=>false
 | .dput o i v,s=>false
 | .par i j a b,s=>false
 | .expr c,s=>kI s λe _=>!cZ e&&bb cc c e
 | .ret c,s=>fG s λo _=>match o with
  | some e=>bb cc c e
  | none=>false
 | .yL,s=>false
 | .iff t a b,s=>G0 s λc x y _=>i6 cc t c&&fL cc a x&&fL cc b y
 | .gk tg k cF b,s=>yg s λt aC body NC _=>NC.isEmpty&&nr cc k cF t aC&&gx cc tg t&&fL cc b body
 | .Hl _ t b,s=>false
 | .Hm a f c,s=>false
 | .uN b cb mt j h,s=>false
 | .jE r c,s=>yN s λbody hs NC fin _=>NC.isEmpty&&fin.isEmpty && !hs.isEmpty&&(match body with
  | [st]=>(match r with
   | true=>fG st λo _=>(match o with
    | some e=>bb cc c e
    | none=>false)
   | false=>kI st λe _=>!cZ e&&bb cc c e)
  | _=>false)
 | .never,_=>true
 | .pass,s=>false
 | .brk,s=>false
 | .cont,s=>false
noncomputable def fL(cc:CC):List S->List Stmt->Bool
 | [],[]=>true
 | s::ss,t::ts=>Ho cc s t&&fL cc ss ts
 | _,_=>false
end
def mq(K:PySem.W.Frag)(ads:List Addr)(H:Hp)(D:jZ):aM->Prop
 | .nx ρ M=>∀cg H' ao,ay ads ao H H'->SR K ao M ρ cg H'->D.nx cg H'
 | .bk ρ M=>∀cg H' ao,ay ads ao H H'->SR K ao M ρ cg H'->D.bk cg H'
 | .ct ρ M=>∀cg H' ao,ay ads ao H H'->SR K ao M ρ cg H'->D.ct cg H'
 | .rt w M=>jm K ads H w M D.rt
 | .er x M=>EX.post K ads H x M
 | .aa=>False
def mr(K:PySem.W.Frag)(o:En->ab->aM):TS:=λD σ H=>∃ads M ρ,SR K ads M ρ σ H/\mq K ads H D (o ρ M)
theorem mq.shift{K:PySem.W.Frag}{ads ao:List Addr}{H H':Hp}{M M2:ab}{D:jZ}{o:aM}(p:mq K ads H D o)(g:ay ads ao H H')(m:aJ K ads H M)(m':aJ K ao H' M2):mq K ao H' D o:=by
 cases o with
 | nx ρ M=>exact λσ H1 ae g1 s1=>p σ H1 ae (g.trans g1) s1
 | bk ρ M=>exact λσ H1 ae g1 s1=>p σ H1 ae (g.trans g1) s1
 | ct ρ M=>exact λσ H1 ae g1 s1=>p σ H1 ae (g.trans g1) s1
 | rt w M=>exact jm.shift p g m m'
 | er x M=>exact EX.shift p g
 | aa=>exact p
theorem zK{X:Cx}{st:Stmt}{t u:TS}(h:PS X st t)(f:∀D σ H,u D σ H->t D σ H):PS X st u:=λpins s σ H D I q=>h pins s σ H D I (f D σ H q)
theorem ND{X:Cx}{st:List Stmt}{t u:TS}(h:t5 X st t)(f:∀D σ H,u D σ H->t D σ H):t5 X st u:=λpins s σ H D I q=>h pins s σ H D I (f D σ H q)
section
variable {kk:Nat} {X:Cx} {cc:CC} {G:bf}
theorem jN{e:Expr}(h:cZ e=false)(t:Option Expr)(l:Nat)(env:Env):swapsWith e t l env=pure false:=by
 cases e<;>first | rfl | exact absurd (show true=false from h).symm aD
theorem NF{K:PySem.W.Frag}{o:En->ab->aM}{k:En->ab->aM}{σ:L2.St}{H:Hp}{D:jZ}(h:mr K (λρ M=>(o ρ M).seq k) D σ H):LK (mr K o) (mr K k) D σ H:=by
 obtain⟨ads,M,ρ,s,q⟩:=h;have q:mq K ads H D ((o ρ M).seq k):=q;refine⟨ads,M,ρ,s,?_⟩
 cases hq:o ρ M with
 | nx Hg M1 =>
  rw[hq]at q;intro S1 H1 ae g1 s1;exact⟨ae,M1,Hg,s1,mq.shift (o:=k Hg M1) q g1 s.mem s1.mem⟩
 | bk ρ M=>rw[hq]at q;exact q
 | ct ρ M=>rw[hq]at q;exact q
 | rt w M=>rw[hq]at q;exact q
 | er x M=>rw[hq]at q;exact q
 | aa=>rw[hq]at q;exact q
theorem BJ {K : PySem.W.Frag} {body : En -> ab -> aM} {it : Ev.It} {J : L2.It} {tg : List Nat} {tb : TS} (hb : ∀ D σ H, mr K body D σ H -> tb D σ H) {ads : List Addr} {M : ab} {ρ : En} {σ : L2.St} {H : Hp} {D : jZ} {f : Nat}
    (s:SR K ads M ρ σ H) (hJ:Ee K ads H it J) (q:mq K ads H D (cU body it tg f 0 ρ M)) :
    ∃W:Nat->Nat->L2.St->Hp->Prop,(∃m,W 0 m σ H)/\∀i m σ H,W i m σ H ->
      (J.stop i H/\D.nx σ H)\/(J.go i H/\∃N:L2.St->Hp->Prop,(∀cg H',N cg H'->∃m',m'<m/\W (i+1) m' cg H')/\∀x H',J.LP i H x H'->tG K tg x σ H' λFJ H2=>tb {D with nx:=N,ct:=N,bk:=D.nx} FJ H2):=by
  refine⟨λi m cg H'=>∃ao M' dB,SR K ao M' dB cg H'/\ay ads ao H H'/\mq K ads H D (cU body it tg m i dB M'),⟨f,ads,M,ρ,s,ay.refl _ _,q⟩,?_⟩;rintro i m cg H' ⟨ao,M',dB,s',g',q'⟩;obtain⟨r1,r2⟩:=hJ i ao H' M' g' s'.mem
  cases m with
  | zero =>
    unfold cU at q';split at q'
    · rename_i hi
      exact .inl ⟨r1 hi,q' cg H' ao g' s'⟩
    · exact q'.elim
  | succ m =>
    unfold cU at q';split at q'
    · rename_i hi
      exact .inl ⟨r1 hi,q' cg H' ao g' s'⟩
    · rename_i d hi
      obtain⟨go,yl⟩:=r2 d hi
      cases RI:bJ tg d dB with
      | none=>rw[RI]at q';exact q'.elim
      | some Hg =>
        rw[RI]at q';dsimp only at q';refine .inr ⟨go,λFJ H2=>∃aO M2 Hq,SR K aO M2 Hq FJ H2/\ay ads aO H H2/\mq K ads H D (cU body it tg m (i+1) Hq M2),λFJ H2 h=>⟨m,tJ _,h⟩,λx H2 y=>?_⟩;obtain⟨g2,m2,rd⟩:=yl x H2 y;refine⟨ao,M',dB,d,s'.grow g2 m2,rd,Hg,RI,λFJ s2=>hb _ _ _ ⟨ao,M',Hg,s2,?_⟩⟩;have gg:=g'.trans g2
        cases hq:body Hg M' with
        | nx Pj M3=>rw[hq]at q';exact λAj H3 cY g3 s3=>⟨cY,M3,Pj,s3,gg.trans g3,q'⟩
        | ct Pj M3=>rw[hq]at q';exact λAj H3 cY g3 s3=>⟨cY,M3,Pj,s3,gg.trans g3,q'⟩
        | bk Pj M3=>rw[hq]at q';exact λAj H3 cY g3 s3=>q' Aj H3 cY (gg.trans g3) s3
        | rt w M3=>rw[hq]at q';exact jm.shift (M:=M) (M2:=M') q' gg s.mem s2.mem
        | er x M3=>rw[hq]at q';exact EX.shift (show EX.post K ads H _ _ from q') gg
        | aa=>rw[hq]at q';exact q'.elim
    · exact q'.elim
theorem RJ{K:PySem.W.Frag}{ads:List Addr}{M:ab}{ρ:En}{σ:L2.St}{H:Hp}{D:jZ}{o:En->ab->bp W}{k:W->ab->aM}{R:V->Hp->Prop}(s:SR K ads M ρ σ H)(q:mq K ads H D (aM.eT (o ρ M) k))(hk:∀w M1 v H1 ae,SR K ae M1 ρ σ H1->RW K ae H1 w v->mq K ae H1 D (k w M1)->R v H1):tE K o σ H R:=by
 refine⟨ads,M,ρ,s,?_⟩
 cases hq:o ρ M with
 | ok w M1 =>
  rw[hq]at q;intro v H1 ae g1 m1 r1;exact hk w M1 v H1 ae (s.grow g1 m1) r1.rw (mq.shift (o:=k w M1) q g1 s.mem m1)
 | err _ _=>rw[hq]at q;exact q
 | aa=>rw[hq]at q;exact q
theorem Hr{K:PySem.W.Frag}{ads:List Addr}{M:ab}{ρ:En}{σ:L2.St}{H:Hp}{D:jZ}{c:C}{k:Ev.D->ab->aM}{R:V->Hp->Prop}(s:SR K ads M ρ σ H)(q:mq K ads H D (aM.eT ((ev G c ρ M).bind own) k))(hk:∀(d:Ev.D) M1 v H1 ae,SR K ae M1 ρ σ H1->RD K ae H1 d v->mq K ae H1 D (k d M1)->R v H1):tE K (ev G c) σ H R:=by
 refine⟨ads,M,ρ,s,?_⟩
 cases hq:ev G c ρ M with
 | ok w M1 =>
  rw[hq]at q;intro v H1 ae g1 m1 r1;have q:mq K ads H D (aM.eT (own w M1) k):=q
  cases ho:own w M1 with
  | ok d M2 =>
   rw[ho]at q;obtain⟨aO,g2,m2,rd⟩:=nw s.mem g1 m1 r1 ho;exact hk d M2 v H1 aO (s.grow g2 m2) rd (mq.shift (o:=k d M2) q g2 s.mem m2)
  | err _ _=>cases w<;>cases ho
  | aa=>cases w<;>cases ho
 | err _ _=>rw[hq]at q;exact q
 | aa=>rw[hq]at q;exact q
theorem BK{tg:List Nat}{t:Expr}(h:gx cc tg t=true):(∃x p,t=.Name x p)\/∃es k p,t=.Tuple es k p:=by
 rcases tg with _|⟨i,_|⟨j,r⟩⟩
 ·exact absurd h aD
 ·exact .inl (aQ (P:=λt=>∃x p,t=.Name x p) ((aA _ _).mp h).1 λx p _=>⟨x,p,rfl⟩)
 ·exact .inr (fc (P:=λt=>∃es k p,t=.Tuple es k p) h λes k p _=>⟨es,k,p,rfl⟩)
theorem mv{el:Expr}{gens:List Comprehension}{sc:Scope}{q p:Pos}{x:Str}{l:Nat}{env:Env}:swapsWith (.ListComp el gens sc q) (some (.Name x p)) l env=pure (env.blockKind == .function&&env.kindOf x==some .local&&p.line==q.line && !(sc.names.any λ(n,k)=>n==x&&(k == .local||k == .cell))):=rfl
theorem NG{tg:List Nat}{c:C}{t v:Expr}{pos:Pos}(g:dm kk X cc G)(hg:PG X t (tG X.K tg))(ht:gx cc tg t=true)(hv:Ei cc t v=true)(VO:cZ v=true->∃el gens sc q,v=.ListComp el gens sc q)(he:PE X v (tE X.K (ev G c))):PS X (.Assign [t] v pos) (mr X.K (fK G (.asg tg c))):=by
 have j_:∀D σ H,mr X.K (fK G (.asg tg c)) D σ H->LO (tE X.K (ev G c)) (tG X.K tg) D σ H:=by
  intro D σ H q;obtain⟨ads,M,ρ,s,q⟩:=q;refine Hr s (by simp only[sk]at q;exact q) λd M1 v H1 ae s1 rd q1=>?_
  cases hb:bJ tg d ρ with
  | none=>simp only[hb]at q1;exact q1.elim
  | some dB =>
   simp only[hb]at q1;exact⟨ae,M1,ρ,d,s1,rd,dB,hb,λcg s'=>q1 cg H1 ae (ay.refl _ _) s'⟩
 rcases BK ht with⟨x,p,rfl⟩|⟨es,k,p,rfl⟩
 ·refine zK (pX he hg ?_ (by unfold swappedStores;cases v<;>rfl) rfl) j_;show swapsWith v (some (.Name x p)) pos.line X.env=pure false
  cases hc:cZ v with
  | false=>exact jN hc _ _ _
  | true =>
   have hv:((!cZ v && !(false&&jL v))||(cc.names.lookup x==some .cell))=true:=hv;rw[hc]at hv;have hk:X.env.kindOf x=some .cell:=g.kinds x .cell (by simpa using hv);obtain⟨el,gens,sc,q,rfl⟩:=VO hc;rw[mv,hk,show((some NameKind.cell:Option NameKind)==some NameKind.local)=false from rfl];simp
 ·have RK:((!cZ v && !(true&&jL v))||false)=true:=hv;simp only[Bool.or_false,Bool.true_and,aA,gB]at RK;refine zK (pX he hg (show swapsWithSole [.Tuple es k p] v pos.line X.env=pure false from jN RK.1 (some (.Tuple es k p)) pos.line X.env) ?_ rfl) j_;unfold swappedStores;cases v<;>first | rfl | exact absurd (show true=false from RK.2).symm aD
theorem Hs{i:Nat}{c:C}{x:Str}{p q pos:Pos}{el t aC:Expr}{ifs:List Expr}{sc:Scope}{N':List Str}{bY:List (Option Nat)}{wi:TI}{gt:TG}{tc:Option TT}{te:TE}(g:Good kk X cc G)(hk:X.env.blockKind=.function)(hx:cc.N[i]?=some x)(hl:cc.names.lookup x=some .local)(hp:p.line=q.line)(hn:(sc.names.any λ(n,k)=>n==x&&(k == .local||k == .cell))=false)(hw:∀(pins:List (Addr×Obj))(s:Shared)(σ:L2.St)(H:Hp),Inv X pins σ H s->∃cl,PI X t aC wi/\iQ X sc N' bY cl t el ifs gt tc te)(M9:∀x,foldedSetIterable aC X.env x=pure x)(j_:∀σ H Q,tE X.K (ev G c) σ H Q->rD bY wi gt tc te σ H Q):PS X (.Assign [.Name x p] (.ListComp el [⟨t,aC,ifs,0⟩] sc q) pos) (mr X.K (fK G (.i_ i c))):=by
 intro pins s σ H D I h;obtain⟨cl,hi,ck⟩:=hw pins s σ H I;refine AN (i:=i) g.calm (by rw[g.N];exact g.nd) (by rw[g.N];exact hx) (g.kinds x _ hl) ?_ hi ck M9 pins s σ H D I ?_
 ·rw[mv,hk,show X.env.kindOf x=some .local from g.kinds x _ hl,hn,hp];simp
 ·obtain⟨ads,M,ρ,sr,h⟩:=h;refine j_ σ H _ (Hr sr (by simp only[o_]at h;exact h) λd M1 v H1 ae s1 rd q1=>?_);exact q1 _ H1 ae (ay.refl _ _) (s1.set i rd)
theorem NH{o i v:C}{e f w:Expr}{sp pos:Pos}(g:Good kk X cc G)(hf:fV f=true)(ho:PE X e (tE X.K (ev G o)))(hi:PE X f (tE X.K (ev G i)))(hv:PE X w (tE X.K (ev G v))):PS X (.Assign [.Subscript e f sp] w pos) (mr X.K (fK G (.put o i v))):=by
 have Rt:=g.rh.un;refine zK (pX hv (FI ho hi (GY ∅) (by intro _;cases f<;>first | rfl | exact absurd (show false=true from hf) aD)) (show swapsWithSole [.Subscript e f sp] w pos.line X.env=pure false from (by cases w<;>rfl)) (by unfold swappedStores;cases w<;>rfl) rfl) λD σ H q=>?_;obtain⟨ads,M,ρ,s,q⟩:=q;refine Hr s (by simp only[sm]at q;exact q) λd M1 v H1 ae s1 rd q1=>?_;refine⟨ae,M1,ρ,s1,?_⟩
 cases h2:ev G o ρ M1 with
 | ok wo M2 =>
  rw[h2]at q1;intro vo H2 aO g2 m2 ro;have s2:=s1.grow g2 m2;refine⟨aO,M2,ρ,s2,?_⟩;have q2:mq X.K ae H1 D (aM.eT (ev G i ρ M2) λy M=>aM.eT (ik wo y d M) λ_ M=>.nx ρ M):=q1
  cases h3:ev G i ρ M2 with
  | ok wi M3 =>
   rw[h3]at q2;intro vi H3 cY g3 m3 ri;have s3:=s2.grow g3 m3;have q3:mq X.K ae H1 D (aM.eT (ik wo wi d M3) λ_ M=>.nx ρ M):=q2;refine⟨cY,M3,wo,wi,d,m3,g3.rw ro.rw,ri.rw,(g2.trans g3).rd _ _ rd,?_⟩
   cases h4:ik wo wi d M3 with
   | ok u M4 =>
    rw[h4]at q3;intro H4 Bp g4 m4;exact q3 σ H4 Bp ((g2.trans g3).trans g4) (s3.grow g4 m4)
   | err _ _=>rw[h4]at q3;exact EX.shift (show EX.post X.K ae H1 _ _ from q3) (g2.trans g3)
   | aa=>rw[h4]at q3;exact q3
  | err _ _=>rw[h3]at q2;exact EX.shift (show EX.post X.K ae H1 _ _ from q2) g2
  | aa=>rw[h3]at q2;exact q2
 | err _ _=>rw[h2]at q1;exact q1
 | aa=>rw[h2]at q1;exact q1
theorem Ht{c:C}{e:Expr}{pos:Pos}(hc:cZ e=false)(he:PE X e (tE X.K (ev G c))):PS X (.Expr e pos) (mr X.K (fK G (.expr c))):=by
 refine zK (q_ he (jN hc _ _ _)) λD σ H q=>?_;obtain⟨ads,M,ρ,s,q⟩:=q;exact RJ (k:=λ_ M=>.nx ρ M) s (by simp only[pb]at q;exact q) λw M1 v H1 ae s1 r1 q1=>q1 σ H1 ae (ay.refl _ _) s1
theorem NI{c:C}{e:Expr}{pos:Pos}(he:PE X e (tE X.K (ev G c))):PS X (.Return (some e) pos) (mr X.K (fK G (.ret c))):=by
 refine zK (wM he) λD σ H q=>?_;obtain⟨ads,M,ρ,s,q⟩:=q;refine⟨ads,M,ρ,s,?_⟩;simp only[su]at q
 cases hq:ev G c ρ M with
 | ok w M1=>rw[hq]at q;exact q
 | err _ _=>rw[hq]at q;exact q
 | aa=>rw[hq]at q;exact q
theorem RL{t:dv}{a b:List S}{c:Expr}{x y:List Stmt}{pos:Pos}(ht:PT X c (lD X.K (cT G t)))(ha:t5 X x (mr X.K (bX G a)))(hb:t5 X y (mr X.K (bX G b))):PS X (.If c x y pos) (mr X.K (fK G (.iff t a b))):=by
 refine zK (LM ht ha hb) λD σ H q=>?_;obtain⟨ads,M,ρ,s,q⟩:=q;refine⟨ads,M,ρ,s,?_⟩;simp only[sv]at q
 cases hq:cT G t ρ M with
 | ok r M1 =>
  rw[hq]at q;intro H1 ae g1 m1;have q:mq X.K ads H D (if r then bX G a ρ M1 else bX G b ρ M1):=q;have q:=q.shift g1 s.mem m1
  cases r with
  | true=>rw[aG rfl]at q⊢;exact⟨ae,M1,ρ,s.grow g1 m1,q⟩
  | false=>rw[aR (by simp)]at q⊢;exact⟨ae,M1,ρ,s.grow g1 m1,q⟩
 | err _ _=>rw[hq]at q;exact q
 | aa=>rw[hq]at q;exact q
theorem NJ{tg:List Nat}{k:SK}{cF:List C}{b:List S}{t aC:Expr}{body:List Stmt}{pos:Pos}(g:Good kk X cc G)(hx:PassesOwn (model X.prog X.w) X.A X.env X.xe)(hs:PI X t aC (tI X.K (cw G k cF)))(hn:dz aC=true)(ht:gx cc tg t=true)(hb:t5 X body (mr X.K (bX G b))):PS X (.For t aC body [] pos) (mr X.K (fK G (.gk tg k cF b))):=by
 refine zK (FK hx g.calm hs (iw g ht) hb (nA hn X.env)) λD σ H q=>?_;obtain⟨ads,M,ρ,s,q⟩:=q;refine⟨ads,M,ρ,s,?_⟩;simp only[pd]at q
 cases hq:cw G k cF ρ M with
 | ok it M1 =>
  rw[hq]at q;intro J H1 ae g1 m1 rj;exact BJ (λD σ H h=>h) (s.grow g1 m1) rj (mq.shift (o:=cU (λρ M=>bX G b ρ M) it tg (bZ M1 it) 0 ρ M1) q g1 s.mem m1)
 | err _ _=>rw[hq]at q;exact q
 | aa=>rw[hq]at q;exact q
end
section
variable {kk:Nat} {X:Cx} {cc:CC} {G:bf}
def RM(kk:Nat)(X:Cx)(xs:List (Str×Addr×List Str)):Prop:=∀(x:Str)(a:Addr)(f:List Str),xs.lookup x=some (a,f)->∃D fI fd sf oI j,j+1<=kk/\O8 X.K a D fI f/\X.K.lookup fI=some oI/\oI.cls=.type "function" /\ fu X.prog X.w X.K X.mg X.base OZ j fI fd (sf::f) (Tf X.K a D fI f)/\Binds X.K fd (sf::f) []/\X.mg x=some (.ref a)
theorem aF.zip{K:PySem.W.Frag}{ads:List Addr}{H:Hp}:∀{f:List Str}{ds:List D}{vs:List V},aF K ads H ds vs->bN K ads H (f.zip ds) (f.zip vs)
 | [],_,_,_=>by simp only[List.zip_nil_left];unfold bN;rfl
 | _::_,[],vs,h=>by unfold aF at h;subst h;simp only[List.zip_nil_right];unfold bN;rfl
 | f::fs,d::ds,vs,h=>by
  unfold aF at h;obtain⟨x,r,rfl,h1,h2⟩:=h;simp only[List.zip_cons_cons];unfold bN;exact⟨_,_,rfl,rfl,h1,aF.zip h2⟩
end
end
section
variable [EX]
section
variable {kk:Nat} {G:bf} {X:Cx} {cc:CC}
theorem BL{tg:List Nat}{cond:Option dv}{elt:C}{bY:List (Option Nat)}{el t:Expr}{ifs:List Expr}{sc:Scope}(g:Good kk X cc G)(yI:oX cc sc=true)(xG:bY=kJ cc sc)(RE:gx (mi cc sc) tg t=true)(iA:Bn (mi cc sc) cond ifs=true)(RN:bb (mi cc sc) elt el=true)(pins:List (Addr×Obj))(s:Shared)(σ:L2.St)(H:Hp)(I:Inv X pins σ H s):∃cl,iQ X sc (dy sc) bY cl t el ifs (tG X.K tg) (cond.map λt=>@lD never X.K (cT G t)) (@tE never X.K (ev G elt)):=by
 obtain⟨h1,h2,h3,h4,h5⟩:=jM yI
 obtain⟨cl,RF⟩:=si (X:=X) (sc:=sc) λy hy hf=>by
  obtain⟨_,ho⟩:=h5 y hy hf;refine I.ok.has y.1 ?_;rcases ho with ho | ho
  ·exact .inl (g.kinds _ _ ho)
  ·exact g.kinds _ _ ho
 refine⟨cl,h1,h2,h3,RF,xG▸yG g yI,λC s H fp=>(by have gb:=g.block (cl:=cl) yI C s H fp;letI:=never;exact iw gb RE),?_,λC s H fp=>aI elt never (mi cc sc) _ el (g.block yI C s H fp) RN⟩
 cases cond with
 | none =>
  cases ifs with
  | nil=>rfl
  | cons _ _=>cases iA
 | some tt =>
  cases ifs with
  | nil=>cases iA
  | cons e es =>
   cases es with
   | cons _ _=>cases iA
   | nil=>exact⟨e,rfl,λC s H fp=>uM tt never (mi cc sc) (X.block sc cl C (dy sc) s H fp []) e (g.block yI C s H fp) iA⟩
theorem BM{k:SK}{cF:List C}{tg:List Nat}{cond:Option dv}{elt:C}{bY:List (Option Nat)}(σ:L2.St)(H:Hp)(Q:VK)(q:tE X.K (ev G (.comp k cF tg cond elt bY)) σ H Q):rD bY (tI X.K (cw G k cF)) (tG X.K tg) (cond.map λt=>@lD never X.K (cT G t)) (@tE never X.K (ev G elt)) σ H Q:=by
 obtain⟨ads,M,ρ,sr,q⟩:=q;refine⟨ads,M,ρ,sr,?_⟩
 have q:bg X.K ads H Q ((cw G k cF ρ M).bind λit M=>a8 (λτ M=>bq G cond τ M) (λτ M=>(ev G elt τ M).bind own) it tg (bZ M it) 0 (d_ bY ρ) M []):=by
  simp only[ni]at q;unfold cw
  cases hw:cq G cF ρ M with
  | ok ws M1=>rw[hw]at q;exact q
  | err _ _=>rw[hw]at q;exact q
  | aa=>rw[hw]at q;exact q
 cases hs:cw G k cF ρ M with
 | ok it M1 =>
  rw[hs]at q;intro J H1 ae g1 m1 rj;exact o9 (sr.grow g1 m1) rj (bg.shift (o:=a8 (λτ M=>bq G cond τ M) (λτ M=>(ev G elt τ M).bind own) it tg (bZ M1 it) 0 (d_ bY ρ) M1 []) q g1 sr.mem m1)
 | err _ _=>rw[hs]at q;exact q
 | aa=>rw[hs]at q;exact q
structure sA (kk:Nat) (X:Cx) (cc:CC) (G:bf):Prop where
 g:Good kk X cc G
 bk:X.env.blockKind=.function
 nx:PassesOwn (model X.prog X.w) X.A X.env X.xe
 xp:∃E:XK,rH X E/\∀{K:PySem.W.Frag}{ads:List Addr}{H:Hp}{x:xT}{M:ab},EX.post K ads H x M->(AS E).post K ads H x M
 xs:RM kk X cc.xs.cl
 Jb:X.stack=X.env::X.outer/\X.env.frame=some X.env.locals
theorem uP{v:Expr}(h:(!cZ v||Nat.beq v.ctorIdx 8)=true)(hc:cZ v=true):∃el gens sc q,v=.ListComp el gens sc q:=by
 rw[hc]at h;exact Expr.ListComp.elim (motive_1:=λv=>∃el gens sc q,v=.ListComp el gens sc q) v (Nat.eq_of_beq_eq_true h) λel gens sc q=>⟨el,gens,sc,q,rfl⟩
theorem Hu{c:C}{el:Expr}{gens:List Comprehension}{sc:Scope}{q:Pos}(h:bb cc c (.ListComp el gens sc q)=true):∃k cF tg cond elt bY,c=.comp k cF tg cond elt bY:=by
 cases c<;>first | exact absurd (show false=true from h) aD | exact⟨_,_,_,_,_,_,rfl⟩
end
section
variable {kk:Nat} {X:Cx} {cc:CC} {G:bf}
theorem Good.DH(g:Good kk X cc G):@Good never kk X.DH cc G :=
 @Good.mk never kk X.DH cc G ⟨g.rh,g.N,g.nd,g.kinds,g.To,g.blt,g.Rq,g.Vm,g.cat,g.Pb,g.qj,g.uY,g.M9⟩ g.calm g.room g.fns ⟨E0,(λ_ _ _ _ _ _ _ h=>h.elim),λh=>h.elim⟩
theorem Hv {r : Bool} {c : C} {st : Stmt} {h0 : ExceptHandler} {dS : List ExceptHandler} {pos : Pos} (g : sA kk X cc G)
    (hk:(match r with
      | true=>fG st λo _=>(match o with
        | some e=>bb cc c e
        | none=>false)
      | false=>kI st λe _=>!cZ e&&bb cc c e)=true):PS X (.Try [st] (h0::dS) [] [] pos) (mr X.K (fK G (.jE r c))):=by
  have main : ∀ {st : Stmt}, PS X.DH st (@mr never X.K (fun ρ M => match ev G c ρ M with
      | .ok w M=>aM.tn r w ρ M
      | _=>.aa))->PS X (.Try [st] (h0::dS) [] [] pos) (mr X.K (fK G (.jE r c))):=λ{st} hp pins s σ H Z I q=>by
    refine wpAny_Try_except (wpAny_execs_cons (iJ (hp pins s σ H Z (I.lH _) ?_) (λf s1 h1=>?_) λ_ _ z=>z.elim))
    · obtain⟨ads,M,ρ,sr,q⟩:=q;refine⟨ads,M,ρ,sr,?_⟩;rw[pe]at q;dsimp only
      cases hq:ev G c ρ M with
      | ok w M1 =>
        rw[hq]at q
        cases r with
        | true=>exact q
        | false=>exact q
      | err _ _=>rw[hq]at q;exact q.elim
      | aa=>rw[hq]at q;exact q.elim
    · have h2:=h1.fA
      cases f with
      | next=>exact z3 (z3 h2)
      | brk=>exact h2
      | cont=>exact h2
      | ret u=>exact h2
  cases r with
  | true =>
    refine jn (P:=λst=>PS X (.Try [st] (h0::dS) [] [] pos) _) hk λo rp hk=>?_
    cases o with
    | none=>exact absurd hk aD
    | some e =>
      have gn:=g.g.DH
      letI:=never
      refine main (zK (wM (aI c never cc X.DH e gn hk)) λD σ H q=>?_);obtain⟨ads,M,ρ,s,q⟩:=q;refine⟨ads,M,ρ,s,?_⟩;dsimp only at q
      cases hq:ev G c ρ M with
      | ok w M1=>rw[hq]at q;exact q
      | err _ _=>rw[hq]at q;exact q.elim
      | aa=>rw[hq]at q;exact q.elim
  | false =>
    refine mh (P:=λst=>PS X (.Try [st] (h0::dS) [] [] pos) _) hk λe rp hk=>?_;simp only[aA,gB]at hk;have gn:=g.g.DH
    letI:=never
    refine main (zK (q_ (aI c never cc X.DH e gn hk.2) (jN hk.1 _ _ _)) λD σ H q=>?_);obtain⟨ads,M,ρ,s,q⟩:=q;refine⟨ads,M,ρ,s,?_⟩;dsimp only at q
    cases hq:ev G c ρ M with
    | ok w M1=>rw[hq]at q;exact λv H1 ae g1 m1 r1=>q σ H1 ae g1 (s.grow g1 m1)
    | err _ _=>rw[hq]at q;exact q.elim
    | aa=>rw[hq]at q;exact q.elim
end
mutual
theorem RO{kk:Nat}{G:bf}:∀(s:S)(cc:CC)(X:Cx)(st:Stmt),sA kk X cc G->Ho cc s st=true->PS X st (mr X.K (fK G s))
 | .asg tg c,cc,X,st,g,h=>fJ (P:=λst=>PS X st _) h λts v pos h=>by
  rcases ts with _|⟨t,_|⟨_,_⟩⟩<;>first | exact absurd h aD | skip
  simp only[aA]at h;exact NG g.g.cu (iw g.g h.1.1.1) h.1.1.1 h.1.1.2 (uP h.1.2) (aI c _ cc X v g.g h.2)
 | .i_ i c,cc,X,st,g,h=>fJ (P:=λst=>PS X st _) h λts v pos h=>by
  rcases ts with _|⟨t,_|⟨_,_⟩⟩<;>first | exact absurd h aD | skip
  refine aQ (P:=λt=>PS X (.Assign [t] v pos) _) h λx p h=>gw (P:=λv=>PS X (.Assign [.Name x p] v pos) _) h λel gens sc q h=>?_;simp only[aA,gB]at h;obtain⟨⟨⟨⟨h1,h2⟩,h3⟩,h4⟩,h5⟩:=h;obtain⟨k,cF,tg,cond,elt,bY,rfl⟩:=Hu h5;rcases gens with _|⟨⟨t,aC,ifs,as⟩,_|⟨_,_⟩⟩<;>first | exact absurd (show false=true from h5) aD | skip
  have h6:(as==0&&oX cc sc&&decide (bY=kJ cc sc)&&nr cc k cF t aC&&gx (mi cc sc) tg t&&Bn (mi cc sc) cond ifs&&bb (mi cc sc) elt el)=true:=h5;simp only[aA,dQ,nU]at h6;obtain⟨⟨⟨⟨⟨⟨rfl,k1⟩,k2⟩,k3⟩,k4⟩,k5⟩,k6⟩:=h6;obtain⟨yJ,j9⟩:=qD cF k _ cc X t aC g.g k3
  exact Hs g.g g.bk (eq_of_beq h1) (eq_of_beq h2) (eq_of_beq h3) h4 (λpins s σ H I=>by
   obtain⟨cl,ck⟩:=BL g.g k1 k2 k4 k5 k6 pins s σ H I;exact⟨cl,yJ,ck⟩) (nA j9 X.env) BM
 | .par i j a b,_,_,_,_,h=>absurd (show false=true from h) aD
 | .put o i v,cc,X,st,g,h=>fJ (P:=λst=>PS X st _) h λts w pos h=>by
  rcases ts with _|⟨t,_|⟨_,_⟩⟩<;>first | exact absurd h aD | skip
  refine cO (P:=λt=>PS X (.Assign [t] w pos) _) h λe f sp h=>?_;simp only[aA]at h;obtain⟨⟨⟨h1,h3⟩,h4⟩,h5⟩:=h;exact NH g.g h1 (aI o _ cc X e g.g h3) (aI i _ cc X f g.g h4) (aI v _ cc X w g.g h5)
 | .dput o i v,_,_,_,_,h=>absurd (show false=true from h) aD
 | .expr c,cc,X,st,g,h=>mh (P:=λst=>PS X st _) h λe pos h=>by
  simp only[aA,gB]at h;exact Ht h.1 (aI c _ cc X e g.g h.2)
 | .ret c,cc,X,st,g,h=>jn (P:=λst=>PS X st _) h λv pos h=>by
  cases v with
  | none=>exact absurd h aD
  | some e=>exact NI (aI c _ cc X e g.g h)
 | .yL,_,_,_,_,h=>absurd (show false=true from h) aD
 | .iff t a b,cc,X,st,g,h=>Bl (P:=λst=>PS X st _) h λc x y pos h=>by
  simp only[aA]at h;exact RL (uM t _ cc X c g.g h.1.1) (ph a cc X x g h.1.2) (ph b cc X y g h.2)
 | .gk tg k cF b,cc,X,st,g,h=>yh (P:=λst=>PS X st _) h λt aC body NC pos h=>by
  simp only[aA,tK]at h;obtain⟨⟨⟨rfl,h1⟩,h2⟩,h3⟩:=h;obtain⟨hs,hn⟩:=qD cF k _ cc X t aC g.g h1;exact NJ g.g g.nx hs hn h2 (ph b cc X body g h3)
 | .Hl n t b,_,_,_,_,h=>absurd (show false=true from h) aD
 | .Hm a f c,_,_,_,_,h=>absurd (show false=true from h) aD
 | .uN b cb mt j hh,_,_,_,_,h=>absurd (show false=true from h) aD
 | .jE r c,cc,X,st,g,h=>yO (P:=λst=>PS X st _) h λbody hs NC fin pos h=>by
  simp only[aA,tK,gB,tj]at h;obtain⟨⟨⟨rfl,rfl⟩,hh⟩,h⟩:=h;rcases body with _|⟨st,_|⟨_,_⟩⟩<;>first | exact absurd h aD | skip
  rcases hs with _|⟨h0,dS⟩
  ·exact absurd rfl hh
  ·exact Hv g h
 | .never,cc,X,st,g,h=>zK wN λD σ H q=>by
  obtain⟨ads,M,ρ,s,q⟩:=q;exact q
 | .pass,_,_,_,_,h=>absurd (show false=true from h) aD
 | .brk,_,_,_,_,h=>absurd (show false=true from h) aD
 | .cont,_,_,_,_,h=>absurd (show false=true from h) aD
theorem ph{kk:Nat}{G:bf}:∀(ss:List S)(cc:CC)(X:Cx)(st:List Stmt),sA kk X cc G->fL cc ss st=true->t5 X st (mr X.K (bX G ss))
 | [],cc,X,[],g,h=>ND Ag λD σ H q=>by
  obtain⟨ads,M,ρ,s,q⟩:=q;exact q σ H ads (ay.refl _ _) s
 | [],cc,X,_::_,g,h=>by cases h
 | _::_,cc,X,[],g,h=>by cases h
 | s::ss,cc,X,t::ts,g,h=>by
  have h':(Ho cc s t&&fL cc ss ts)=true:=h;simp only[aA]at h';exact ND (wL (RO s cc X t g h'.1) (ph ss cc X ts g h'.2)) λD σ H q=>NF q
end
end
noncomputable def ff(n:Nat)(ds:List D):En:=ds.map some++List.replicate (n-ds.length) none
def aq(G:bf)(n:Nat)(body:List S)(ds:List D)(M:ab):bp W:=match bX G body (ff n ds) M with
 | .rt w M=>.ok w M
 | .nx _ M=>.ok (.d .br) M
 | .er x M=>.err x M
 | _=>.aa
theorem yP{K:PySem.W.Frag}{ads:List Addr}{H:Hp}:∀{ds:List D}{vs:List V}(r:aF K ads H ds vs)(k:Nat),MI K ads H (ds.map some++List.replicate k none) (vs.map some++List.replicate k none)
 | ds,vs,r,k=>by
  intro i d e;by_cases hi:i<ds.length
  ·rw[gz (by simpa using hi),dP]at e
   cases q:ds[i]? with
   | none=>rw[q]at e;cases e
   | some d' =>
    rw[q]at e;cases e;obtain⟨v,ev,rv⟩:=r.get q;exact⟨v,by rw[gz (by rw[aV,<- r.len];exact hi),dP,ev];rfl,rv⟩
  ·rw[nQ (by simpa using hi),List.getElem?_replicate]at e;split at e<;>cases e
theorem yQ{P:Program}{w:World}{K:PySem.W.Frag}{mg:Str->Option Value}{base:Heap}{x qual:Str}{st:Stmt}{f:Addr}{fd:FuncData}{N ps:List Str}{k:Nat}{G:bf}{fs:List (Str×Nat)}{gs:List (Str×Int)}{xs:XI}{body:List S}{n:Nat}(F:S7 K x qual st f fd)(Sc:jI N ps (aZ st))(hn:ps.length=n)(hb:fL ⟨N,(aZ st).names,fs,gs,xs⟩ body (cB st)=true)(RP:∀b∈bI,mg b=none)(VP:∀(x:Str)(v:Int),gs.lookup x=some v->∃t,mg x=some (.int v t))(M9:∀(i:Nat)(x:Str)(n:Nat),fs[i]?=some (x,n)->∃f fd ps,fu P w K mg base (uw P w) k f fd ps (u6 K n (G i))/\mg x=some (.ref f)/\PySem.W.keepIn K (.ref f)=true/\Binds K fd ps []) (VQ:∀(x:Str)(a:Addr)(f:List Str),xs.cl.lookup x=some (a,f)->∃D fI fd sf oI j,j+1<=k/\O8 K a D fI f/\K.lookup fI=some oI/\oI.cls=.type "function" /\ fu P w K mg base OZ j fI fd (sf::f) (Tf K a D fI f)/\Binds K fd (sf::f) []/\mg x=some (.ref a)) (VR:∀k C r,(k,C,r)∈xs.kt->D6 K mg k C r) (VS:∀cb C fs,(cb,C,fs)∈xs.ct->D7 K mg cb C fs) (RQ:∀(x:Str)(a:Addr),(x,a)∈xs.fa->mg x=some (.ref a)) (VT:∀x v:Str,(x,v)∈xs.gt->∃t,mg x=some (.str v t)) (VU:∀(x:Str)(tb:lC),(x,tb)∈xs.tb->rW P w K mg x tb) (VW:∀(i:Nat)(x:Str)(n:Nat),fs[i]?=some (x,n)->i∈xs.hs->∃f fd ps,DX P w K mg base OZ k f fd ps (u6 K n (G i))/\mg x=some (.ref f)/\PySem.W.keepIn K (.ref f)=true/\Binds K fd ps []):fu P w K mg base (uw P w) (k+1) f fd ps (u6 K n (aq G N.length body)):=by
 have mR:ps.length<=N.length:=by have:=jt List.length Sc.pre;rw[jS]at this;omega
 obtain⟨oc,od,kV,doc,pm,an,oo,ct,oq,rfl,lk,zD⟩:=F.ex;refine L8 lk zD Sc (λvs H Q E h=>?_) λA outer s H vs Q E hr DO=>?_
 ·obtain⟨ads,M,ds,m,r,hl,_⟩:=h;rw[<- r.len,hl,hn]
 ·letI:EX:=AS E
  have gs:sA k (p9 (uw P w) P w K mg base N qual (aZ st) f oo A outer s H E) ⟨N,(aZ st).names,fs,gs,xs⟩ G:=by
   refine⟨⟨⟨⟨hr.dp,hr.un⟩,rfl,Sc.nd,λx k e=>?_,λ_ _=>rfl,RP,VP,VR,VS,RQ,VT,VU,VW⟩,rfl,hr,M9,⟨E,na.pass,λh=>h⟩⟩,?_,na.own,⟨E,na,λh=>h⟩,VQ,⟨rfl,rfl⟩⟩
   ·have e:(aZ st).names.lookup x=some k:=e
    cases k with
    | «local»=>exact e
    | cell=>exact e
    | free=>exact absurd rfl (Sc.xh _ (jR e))
    | globalExplicit=>exact True.intro
    | globalImplicit=>exact e
   ·show(if (aZ st).kind.isAnnotationScope then ScopeKind.function else (aZ st).kind)=_;rw[Sc.kind];rfl
  refine⟨_,ph body _ _ (cB st) gs hb,?_⟩;obtain⟨ads,M,ds,m,r,hl,q⟩:=DO
  have bu:(ff N.length ds).length=N.length:=by
   unfold ff;rw[eW,aV,EL];omega
  refine⟨ads,M,ff N.length ds,⟨m,?_,?_⟩,?_⟩
  ·unfold ff L2.start;rw[<- r.len];exact yP r _
  ·rw[bu];unfold L2.start;rw[eW,aV,EL,<- r.len];omega
  ·unfold aq at q
   cases hq:bX G body (ff N.length ds) M with
   | nx ρ M1=>rw[hq]at q;exact λcg H' ao g s'=>q .br H' ao g s'.mem (show RD K ao H' .br .br from kA)
   | rt w M1=>rw[hq]at q;exact q
   | bk _ _=>rw[hq]at q;exact q.elim
   | ct _ _=>rw[hq]at q;exact q.elim
   | er x M1=>rw[hq]at q;exact q
   | aa=>rw[hq]at q;exact q.elim
noncomputable def cf(l:List (List D->ab->bp W)):bf:=λi ds M=>match l[i]? with
 | some f=>f ds M
 | none=>.aa
theorem Hw{K:PySem.W.Frag}{h:Heap}{mg:Str->Option Value}{gs:List (Str×Int)}(X:K.In h)(G:h.Ns mainGlobals mg)(z:gs.all (λp=>match PySem.W.nsIn K mainGlobals p.1 with | some (some (.int v _))=>v==p.2 | _=>false)=true):∀(x:Str)(v:Int),gs.lookup x=some v->∃t,mg x=some (.int v t):=by
 intro x v e;have q:=jT.mp z (x,v) (jR e);dsimp only at q;split at q
 ·rename_i w t e2
  obtain rfl:=eq_of_beq q;exact⟨t,gC X G e2⟩
 ·exact absurd q aD
section
variable {P:Program} {w:World} {K:PySem.W.Frag} {mg:Str->Option Value} {base h:Heap} {k k2:Nat} {x:Str} {n:Nat} {fs:List (Str×Nat)} {Fs:List (List D->ab->bp W)} {F:List D->ab->bp W} {gs:List (Str×Int)}
structure Is (P:Program) (w:World) (K:PySem.W.Frag) (mg:Str->Option Value) (base:Heap) (k:Nat) (x:Str) (n:Nat) (F:List D->ab->bp W):Prop where
 is:∃f fd ps,fu P w K mg base (uw P w) k f fd ps (u6 K n F)/\mg x=some (.ref f)/\PySem.W.keepIn K (.ref f)=true/\Binds K fd ps []
theorem Is.mono(h:Is P w K mg base k x n F)(hk:k<=k2):Is P w K mg base k2 x n F:=by
 obtain⟨f,fd,ps,a,b⟩:=h.is;exact⟨f,fd,ps,a.mono hk,b⟩
noncomputable def All(P:Program)(w:World)(K:PySem.W.Frag)(mg:Str->Option Value)(base:Heap)(k:Nat)(fs:List (Str×Nat))(Fs:List (List D->ab->bp W)):Prop:=fs.length=Fs.length/\∀(i:Nat)(x:Str)(n:Nat),fs[i]?=some (x,n)->∃F,Fs[i]?=some F/\Is P w K mg base k x n F
theorem All.nil:All P w K mg base k [] []:=⟨rfl,λi x n e=>by simp at e⟩
theorem All.snoc(h:All P w K mg base k fs Fs)(g:Is P w K mg base (k+1) x n F):All P w K mg base (k+1) (fs++[(x,n)]) (Fs++[F]):=by
 obtain⟨hl,h⟩:=h;refine⟨by rw[eW,eW,hl];rfl,λi y m e=>?_⟩;by_cases hi:i<fs.length
 ·rw[gz hi]at e;obtain⟨F,a,b⟩:=h i y m e;exact⟨F,by rw[gz ∅];exact a,b.mono (Nat.le_succ _)⟩
 ·have:i=fs.length:=by
   have:=(eU.mp e).1;simp at this;omega
  subst this;simp at e;obtain⟨rfl,rfl⟩:=e;exact⟨F,by rw[hl];simp,g⟩
theorem All.fns(h:All P w K mg base k fs Fs):∀(i:Nat)(x:Str)(n:Nat),fs[i]?=some (x,n)->∃f fd ps,fu P w K mg base (uw P w) k f fd ps (u6 K n (cf Fs i))/\mg x=some (.ref f)/\PySem.W.keepIn K (.ref f)=true/\Binds K fd ps []:=λi y m e=>by
 obtain⟨F,a,b⟩:=h.2 i y m e;have:cf Fs i=F:=by funext ds M;unfold cf;rw[a]
 rw[this];exact b.is
noncomputable def Jk(N ps:List Str)(sc:Scope):Bool:=(match sc.kind with | .function=>true | _=>false) && !sc.isCoroutine && !sc.isGenerator&&decide N.Nodup&&decide (N.take ps.length=ps)&&ps.all (λx=>match sc.names.lookup x with | some .local=>true | some .cell=>true | _=>false)&&sc.names.all λy=>match y.2 with | .free=>false | _=>true
theorem yR{N ps:List Str}{sc:Scope}(h:Jk N ps sc=true):jI N ps sc:=by
 unfold Jk at h;simp only[aA,jT,nU,gB]at h;obtain⟨⟨⟨⟨⟨⟨h1,h2⟩,h3⟩,h4⟩,h5⟩,h6⟩,h7⟩:=h;refine⟨?_,h2,h3,h4,h5,λx hx=>?_,λy hy e=>?_⟩
 ·split at h1
  ·assumption
  ·cases h1
 ·have:=h6 x hx;split at this
  ·exact .inl (by assumption)
  ·exact .inr (by assumption)
  ·cases this
 ·have:=h7 y hy;rw[e]at this;cases this
noncomputable def NK:Nat->(List Value->Prop)->Prop
 | 0,P=>P []
 | k+1,P=>∀a,NK k λus=>P (a::us)
theorem sC:∀{k:Nat}{P:List Value->Prop},NK k P->∀us,us.length=k->P us:=by
 intro k
 induction k with
 | zero=>intro P h us e;rw[EI.mp e];exact h
 | succ k ih =>
  intro P h us e
  cases us with
  | nil=>cases e
  | cons a us=>exact ih (P:=λus=>P (a::us)) (h a) us (Nat.succ.inj e)
structure Cw (K:PySem.W.Frag) (h:Heap) (mg:Str->Option Value) (gs:List (Str×Int)):Prop where
 X:K.In h
 G:h.Ns mainGlobals mg
 b:∀b∈bI,mg b=none
 g:∀(x:Str)(v:Int),gs.lookup x=some v->∃t,mg x=some (.int v t)
theorem qE(x:Str)(a:Addr)(st:Stmt)(N ps:List Str)(b:List S)(m c:Value)(W:Cw K h mg gs)(A:All P w K mg base k fs Fs)(lk:K.lookup a=some (fo (fq x st m c)))(hc:PySem.W.codeIn K c x=true)(hk:PySem.W.keepIn K (.ref a)=true)(hb:(Jk N ps (aZ st)&&fL ⟨N,(aZ st).names,fs,gs,GZ⟩ b (cB st))=true):fu P w K mg base (uw P w) (k+1) a (fq x st m c) ps (u6 K ps.length (aq (cf Fs) N.length b)) :=
 yQ (xI lk hc hk) (yR ((aA _ _).mp hb).1) rfl ((aA _ _).mp hb).2 W.b W.g A.fns (λ_ _ _ e=>nomatch e) (λ_ _ _ e=>nomatch e) (λ_ _ _ e=>nomatch e) (λ_ _ e=>nomatch e) (λ_ _ e=>nomatch e) (λ_ _ e=>nomatch e) (λ_ _ _ _ e=>nomatch e)
theorem nx(x:Str)(a:Addr)(st:Stmt)(N ps:List Str)(b:List S)(m c:Value)(W:Cw K h mg gs)(A:All P w K mg base k fs Fs)(ha:PySem.W.nsIn K mainGlobals x=some (some (.ref a)):=by (kernel_rfl))(lk:K.lookup a=some (fo (fq x st m c)):=by (kernel_rfl))(hc:PySem.W.codeIn K c x=true:=by (kernel_rfl))(hk:PySem.W.keepIn K (.ref a)=true:=by (kernel_rfl))(hb:(Jk N ps (aZ st)&&fL ⟨N,(aZ st).names,fs,gs,GZ⟩ b (cB st))=true:=by (decide +kernel))(bd:NK ps.length λus=>bindArgs (fq x st m c) ⟨us,[]⟩=pure (ps.zip us):=by (repeat intro _);rfl):All P w K mg base (k+1) (fs++[(x,ps.length)]) (Fs++[aq (cf Fs) N.length b]) :=
 A.snoc ⟨a,_,ps,qE x a st N ps b m c W A lk hc hk hb,gC W.X W.G ha,hk,.all (sC bd)⟩
structure Tz (P:Program) (w:World) (K:PySem.W.Frag) (mg:Str->Option Value) (xs:XI):Prop where
 fa:∀(x:Str)(a:Addr),(x,a)∈xs.fa->mg x=some (.ref a)
 gt:∀x v:Str,(x,v)∈xs.gt->∃t,mg x=some (.str v t)
 tb:∀(x:Str)(tb:lC),(x,tb)∈xs.tb->rW P w K mg x tb
theorem Hx{xs:XI}(x:Str)(a:Addr)(st:Stmt)(N ps:List Str)(b:List S)(m c:Value)(W:Cw K h mg gs)(A:All P w K mg base k fs Fs)(X:Tz P w K mg xs)(ha:PySem.W.nsIn K mainGlobals x=some (some (.ref a)):=by (kernel_rfl))(lk:K.lookup a=some (fo (fq x st m c)):=by (kernel_rfl))(hc:PySem.W.codeIn K c x=true:=by (kernel_rfl))(hk:PySem.W.keepIn K (.ref a)=true:=by (kernel_rfl))(hb:(Jk N ps (aZ st)&&fL ⟨N,(aZ st).names,fs,gs,⟨[],[],[],[],xs.fa,xs.gt,xs.tb⟩⟩ b (cB st))=true:=by (decide +kernel))(bd:NK ps.length λus=>bindArgs (fq x st m c) ⟨us,[]⟩=pure (ps.zip us):=by (repeat intro _);rfl):All P w K mg base (k+1) (fs++[(x,ps.length)]) (Fs++[aq (cf Fs) N.length b]) :=
 A.snoc ⟨a,_,ps,yQ (xI lk hc hk) (yR ((aA _ _).mp hb).1) rfl ((aA _ _).mp hb).2 W.b W.g A.fns (λ_ _ _ e=>nomatch e) (λ_ _ _ e=>nomatch e) (λ_ _ _ e=>nomatch e) X.fa X.gt X.tb (λ_ _ _ _ e=>nomatch e),gC W.X W.G ha,hk,.all (sC bd)⟩
def pj(Fs:List (List D->ab->bp W))(N:Nat)(b:List S):Nat->List D->ab->bp W
 | 0=>λ_ _=>.aa
 | n+1=>aq (cf (Fs++[pj Fs N b n])) N b
theorem All.Ej(h:All P w K mg base k fs Fs)(g:Is P w K mg base k2 x n F)(hk:k<=k2):All P w K mg base k2 (fs++[(x,n)]) (Fs++[F]):=by
 obtain⟨hl,h⟩:=h;refine⟨by rw[eW,eW,hl];rfl,λi y m e=>?_⟩;by_cases hi:i<fs.length
 ·rw[gz hi]at e;obtain⟨F,a,b⟩:=h i y m e;exact⟨F,by rw[gz ∅];exact a,b.mono hk⟩
 ·have:i=fs.length:=by
   have:=(eU.mp e).1;simp at this;omega
  subst this;simp at e;obtain⟨rfl,rfl⟩:=e;exact⟨F,by rw[hl];simp,g⟩
theorem TC(x:Str)(a:Addr)(st:Stmt)(N ps:List Str)(b:List S)(m c:Value)(W:Cw K h mg gs)(A:All P w K mg base k fs Fs)(ha:PySem.W.nsIn K mainGlobals x=some (some (.ref a)):=by (kernel_rfl))(lk:K.lookup a=some (fo (fq x st m c)):=by (kernel_rfl))(hc:PySem.W.codeIn K c x=true:=by (kernel_rfl))(hk:PySem.W.keepIn K (.ref a)=true:=by (kernel_rfl))(hb:(Jk N ps (aZ st)&&fL ⟨N,(aZ st).names,fs++[(x,ps.length)],gs,GZ⟩ b (cB st))=true:=by (decide +kernel))(bd:NK ps.length λus=>bindArgs (fq x st m c) ⟨us,[]⟩=pure (ps.zip us):=by (repeat intro _);rfl):∀n,All P w K mg base (k+n) (fs++[(x,ps.length)]) (Fs++[pj Fs N.length b n])
 | 0=>A.Ej ⟨a,fq x st m c,ps,⟨λvs H Q E z=>by obtain⟨_,_,_,_,_,_,q⟩:=z;exact q.elim,λA outer s H args us vs Q E _ _ _ _ z=>by obtain⟨_,_,_,_,_,_,q⟩:=z;exact q.elim⟩,gC W.X W.G ha,hk,.all (sC bd)⟩ (a6 _)
 | n+1=>by
  have A1:=TC x a st N ps b m c W A ha lk hc hk hb bd n;have F:=qE x a st N ps b m c W A1 lk hc hk hb;exact A.Ej ⟨a,fq x st m c,ps,F,gC W.X W.G ha,hk,.all (sC bd)⟩ ∅
end
def uQ(K:PySem.W.Frag):Value->Option (List Value)
 | .ref a=>match K.lookup a with
  | some o=>if (o.cls == .type "tuple")=true then (match o.data with
   | .seq ax _=>some ax.toList
   | _=>none) else none
  | none=>none
 | _=>none
noncomputable def VX:Option Addr->Value->Bool
 | none,.none=>true
 | some a,.ref b=>a==b
 | _,_=>false
def Pk(K:PySem.W.Frag)(p:List Addr×Option Addr)(v:Value):Bool:=match uQ K v with
 | some [x,y]=>(match uQ K x with
  | some us=>us==p.1.map Value.ref&&decide (p.1.length<=100)
  | none=>false)&&VX p.2 y
 | _=>false
theorem sD{K:PySem.W.Frag}{v:Value}{us:List Value}(h:uQ K v=some us)(hl:us.length<=100):∃a,v=.ref a/\∀xs,aE xs us->MH K a xs:=by
 cases v<;>first | cases h | skip
 rename_i a
 unfold uQ at h;dsimp only at h
 cases e:K.lookup a with
 | none=>rw[e]at h;cases h
 | some o =>
  rw[e]at h;dsimp only at h;by_cases c:(o.cls==Value.type "tuple")=true
  ·rw[aG c]at h
   cases d:o.data with
   | seq ax n =>
    rw[d]at h;obtain rfl:=cx h;exact⟨a,rfl,λxs r=>⟨o,ax,n,e,dQ.mp c,d,d7 (by simpa using hl) (by decide),r⟩⟩
   | _=>rw[d]at h;cases h
  ·rw[aR c]at h;cases h
theorem sE{K:PySem.W.Frag}{ads:List Addr}{H:Hp}:∀rs:List Addr,aF K ads H (rs.map D.fn) (rs.map V.ref)
 | []=>by
  show aF K ads H [] [];unfold aF;rfl
 | r::rs=>by
  show aF K ads H (D.fn r::rs.map D.fn) _;unfold aF;exact⟨_,_,rfl,by unfold RD;rfl,sE rs⟩
theorem kW:∀rs:List Addr,aE (rs.map V.ref) (rs.map Value.ref)
 | []=>.nil
 | r::rs=>.cons rfl (kW rs)
theorem Hy{K:PySem.W.Frag}{p:List Addr×Option Addr}{v:Value}(h:Pk K p v=true):∃x,RelV x v/\∀ads H,RD K ads H (O_ p) x:=by
 unfold Pk at h
 cases e:uQ K v with
 | none=>rw[e]at h;cases h
 | some us =>
  rw[e]at h;rcases us with _|⟨x,_|⟨y,_|⟨z,us⟩⟩⟩
  ·cases h
  ·cases h
  ·dsimp only at h;obtain⟨h1,h2⟩:=(aA _ _).mp h;obtain⟨a,rfl,ka⟩:=sD e (by show 2<=100;decide)
   cases e2:uQ K x with
   | none=>rw[e2]at h1;cases h1
   | some vs =>
    rw[e2]at h1;dsimp only at h1;simp only[aA,dQ,nU]at h1;obtain⟨rfl,hl⟩:=h1;obtain⟨b,rfl,kb⟩:=sD e2 (by rw[aV];exact hl);have kb:=kb _ (kW p.1);obtain⟨rs,fo⟩:=p
    have fin:∀(d:D)(u:V),RelV u y->(∀ads H,RD K ads H d u)->∃x,RelV x (.ref a)/\∀ads H,RD K ads H (.tg [.tg (rs.map D.fn),d]) x:=λd u r q=>by
     refine⟨.ref a,rfl,λads H=>?_⟩;unfold RD;refine⟨a,[.ref b,u],rfl,ka _ (.cons rfl (.cons r .nil)),?_⟩;unfold aF;refine⟨_,_,rfl,?_,?_⟩
     ·unfold RD;exact⟨b,_,rfl,kb,sE rs⟩
     ·unfold aF;exact⟨_,_,rfl,q ads H,by unfold aF;rfl⟩
    cases fo with
    | none =>
     cases y<;>first | cases h2 | skip
     exact fin .br .br rfl λ_ _=>kA
    | some c =>
     cases y<;>first | cases h2 | skip
     rename_i c'
     obtain rfl:c=c':=dQ.mp h2;exact fin (.fn c) (.ref c) rfl λ_ _=>by unfold RD;rfl
  ·cases h
abbrev NL:=List (Str×Tok×Value)
def BN(K:PySem.W.Frag):NL->lC->Bool
 | [],[]=>true
 | e::es,t::ts=>e.1==t.1&&Pk K t.2 e.2.2&&BN K es ts
 | _,_=>false
def zL(e:Str×Tok×Value):bG×Value:=(.inr e.1,e.2.2)
theorem pk {K : PySem.W.Frag} (k : Str) : ∀ {es : NL} {ts : lC}, BN K es ts = true -> match ts.lookup k with
    | none=>valueAt (es.map zL) (.inr k)=none
    | some p=>∃u v,valueAt (es.map zL) (.inr k)=some u/\RelV v u/\∀ads H,RD K ads H (O_ p) v
  | [],[],_=>rfl
  | [],_::_,h=>by cases h
  | _::_,[],h=>by cases h
  | e::es,t::ts,h=>by
    have h:(e.1==t.1&&Pk K t.2 e.2.2&&BN K es ts)=true:=h;simp only[aA,dQ]at h;obtain⟨⟨h1,h2⟩,h3⟩:=h;have ih:=pk k h3;obtain⟨t1,t2⟩:=t;obtain rfl:e.1=t1:=h1;rw[d6];by_cases c:k=e.1
    · have:(k==e.1)=true:=by simpa using c
      rw[this];obtain⟨x,r,q⟩:=Hy h2;refine⟨e.2.2,x,?_,r,q⟩;unfold valueAt;rw[cA,lF,show decide ((zL e).1=(.inr k:bG))=true from gX (by rw[c];rfl)];rfl
    · have:(k==e.1)=false:=by simpa using c
      rw[this]
      have z:valueAt ((e::es).map zL) (.inr k)=valueAt (es.map zL) (.inr k):=by
        unfold valueAt;rw[cA,lF,show decide ((zL e).1=(.inr k:bG))=false from df λz=>c (Sum.inr.inj z).symm]
      rw[z];exact ih
noncomputable def Hz(P:Params)(e:Str×Tok×Value):DictEntry:=⟨PyData.keyHash P e.1,.str e.1 e.2.1,e.2.2⟩
theorem mw{P:Program}{w:World}:∀es:NL,PySem.Pairs (bo P w) (es.map (Hz w.params)) (es.map zL)
 | []=>.nil
 | e::es=>.cons (fx P w e.1 e.2.1) rfl (mw es)
theorem yS{P:Program}{w:World}{h:Heap}{a:Addr}{es:NL}{n:Nat} (e:h.get? a=some ⟨.type "dict",none,.dict (es.map (Hz w.params)).toArray n,#[]⟩) (nd:(es.map (·.1)).Nodup):h.DictOf (bo P w) a (es.map zL):=by
 refine⟨_,_,_,e,⟨rfl,rfl,rfl⟩,rfl,λd hd=>?_,by rw[List.toList_toArray];exact mw es,?_⟩
 ·rw[List.mem_toArray,dD]at hd;obtain⟨x,_,rfl⟩:=hd;exact⟨.inr x.1,fx P w x.1 x.2.1,rfl⟩
 ·rw[pU];have:((λx:bG×Value=>x.1)∘zL)=(Sum.inr:Str->bG)∘(λe:Str×Tok×Value=>e.1):=rfl;rw[this,<- pU];exact List.Pairwise.map _ (λ_ _ hn z=>hn (Sum.inr.inj z)) nd
theorem HA{P:Program}{w:World}{K:PySem.W.Frag}{h:Heap}{mg:Str->Option Value}(X:K.In h)(G:h.Ns mainGlobals mg){x:Str}{a:Addr}{es:NL}{n:Nat}{tb:lC}(h1:PySem.W.nsIn K mainGlobals x=some (some (.ref a)))(h2:(a==sysModules)=false) (h3:K.lookup a=some ⟨.type "dict",none,.dict (es.map (Hz w.params)).toArray n,#[]⟩) (h4:(es.map (·.1)).Nodup) (h5:BN K es tb=true):rW P w K mg x tb :=
 ⟨a,es.map zL,gC X G h1,h2,λh' X'=>yS (X' _ _ h3) h4,λk=>pk k h5⟩
class Er where
 er:xT->ab->Prop
@[reducible] noncomputable def dA:Er:=⟨λ_ _=>False⟩
instance (priority:=low) VY:Er:=dA
section
variable [er:Er]
@[irreducible] noncomputable def aK{α:Type}(o:bp α)(P:α->ab->Prop):Prop:=match o with
 | .ok a M=>P a M
 | .err x M=>Er.er x M
 | .aa=>False
theorem aH{α:Type}{a:α}{M:ab}{P:α->ab->Prop}:aK (.ok a M) P=P a M:=by unfold aK;exact propext mG
theorem ai{α:Type}{P:α->ab->Prop}:aK .aa P=False:=by unfold aK;exact propext mG
theorem da{α:Type}{P:α->ab->Prop}{x:xT}{M:ab}:aK (.err x M) P=Er.er x M:=by unfold aK;exact propext mG
theorem ag{α β:Type}{o:bp α}{f:α->ab->bp β}{P:β->ab->Prop}:aK (o.bind f) P=aK o λa M=>aK (f a M) P:=by
 cases o with
 | ok a M=>rw[aH];rfl
 | err _ _=>rw[da];exact da
 | aa=>rw[ai];exact ai
theorem aK.imp{α:Type}{o:bp α}{P Q:α->ab->Prop}(h:aK o P)(k:∀a M,P a M->Q a M):aK o Q:=by
 cases o with
 | ok a M=>rw[aH]at h⊢;exact k a M h
 | err _ _=>rw[da]at h⊢;exact h
 | aa=>rw[ai]at h;exact h.elim
theorem fX{α:Type}{c:Prop}[Decidable c]{o:bp α}{P:α->ab->Prop}:aK (if c then o else .aa) P=(c/\aK o P):=by
 by_cases h:c
 ·rw[aG h];exact propext ⟨λq=>⟨h,q⟩,λq=>q.2⟩
 ·rw[aR h,ai];exact propext ⟨λq=>q.elim,λq=>absurd q.1 h⟩
omit er in
theorem HB{α:Type}{o:bp α}{P:α->ab->Prop}(h:@aK dA α o P):∃a M,o=.ok a M/\P a M:=by
 cases o with
 | ok a M=>rw[@aH dA]at h;exact⟨a,M,rfl,h⟩
 | err _ _=>rw[@da dA]at h;exact h.elim
 | aa=>rw[@ai dA]at h;exact h.elim
theorem yT{α β:Type}{o:bp α}{f:α->ab->bp β}{P:β->ab->Prop}:aK (o.b0 f) P=@aK dA α o λa M=>aK (f a M) P:=by
 cases o with
 | ok a M=>rw[@aH dA];rfl
 | err _ _=>rw[@da dA];exact ai
 | aa=>rw[@ai dA];exact ai
@[irreducible] noncomputable def eh(o:aM)(nx:En->ab->Prop)(rt:W->ab->Prop)(bk ct:En->ab->Prop):Prop:=match o with
 | .nx ρ M=>nx ρ M
 | .rt w M=>rt w M
 | .bk ρ M=>bk ρ M
 | .ct ρ M=>ct ρ M
 | .er x M=>Er.er x M
 | .aa=>False
section
variable {nx:En->ab->Prop} {rt:W->ab->Prop} {bk ct:En->ab->Prop}
theorem cP{ρ:En}{M:ab}:eh (.nx ρ M) nx rt bk ct=nx ρ M:=by unfold eh;exact propext mG
theorem fM{w:W}{M:ab}:eh (.rt w M) nx rt bk ct=rt w M:=by unfold eh;exact propext mG
theorem kX{ρ:En}{M:ab}:eh (.bk ρ M) nx rt bk ct=bk ρ M:=by unfold eh;exact propext mG
theorem kY{ρ:En}{M:ab}:eh (.ct ρ M) nx rt bk ct=ct ρ M:=by unfold eh;exact propext mG
theorem gP{x:xT}{M:ab}:eh (.er x M) nx rt bk ct=Er.er x M:=by unfold eh;exact propext mG
theorem cv:eh .aa nx rt bk ct=False:=by unfold eh;exact propext mG
theorem de{α:Type}{o:bp α}{f:α->ab->aM}:eh (aM.eT o f) nx rt bk ct=aK o λa M=>eh (f a M) nx rt bk ct:=by
 cases o with
 | ok a M=>rw[aH];rfl
 | err _ _=>rw[da];exact gP
 | aa=>rw[ai];exact cv
theorem BO{o:aM}{f:En->ab->aM}:eh (o.seq f) nx rt bk ct=eh o (λρ M=>eh (f ρ M) nx rt bk ct) rt bk ct:=by
 cases o with
 | nx ρ M=>rw[cP];rfl
 | rt ρ M=>rw[fM];exact fM
 | bk ρ M=>rw[kX];exact kX
 | ct ρ M=>rw[kY];exact kY
 | er ρ M=>rw[gP];exact gP
 | aa=>rw[cv];exact cv
end
theorem BP{G:bf}{n:Nat}{b:List S}{ds:List D}{M:ab}{P:W->ab->Prop}:aK (aq G n b ds M) P=eh (bX G b (ff n ds) M) (λ_ M=>P (.d .br) M) P (λ_ _=>False) (λ_ _=>False):=by
 unfold aq
 cases bX G b (ff n ds) M with
 | nx ρ M=>rw[cP];exact aH
 | rt ρ M=>rw[fM];exact aH
 | bk ρ M=>rw[kX];exact ai
 | ct ρ M=>rw[kY];exact ai
 | er ρ M=>rw[gP];exact da
 | aa=>rw[cv];exact ai
section
variable {G:bf} {ρ:En} {M:ab} {P:W->ab->Prop}
theorem NM{d:D}:aK (ev G (.a_ d) ρ M) P=P (.d d) M:=by simp only[Gu,aH]
theorem NN{op:zG}{a b:C}:aK (ev G (.bin op a b) ρ M) P=aK (ev G a ρ M) λx M=>aK (ev G b ρ M) λy M=>aK (lP op x y M) P:=by simp only[Gw,ag]
theorem NO{op:ux}{a b:C}:aK (ev G (.cmp op a b) ρ M) P=aK (ev G a ρ M) λx M=>aK (ev G b ρ M) λy M=>aK (bM op x y M) λr M=>P (.d (.bl r)) M:=by simp only[xY,ag,aH]
theorem NP{c:dv}{a b:C}:aK (ev G (.ite c a b) ρ M) P=aK (cT G c ρ M) λr M=>if r then aK (ev G a ρ M) P else aK (ev G b ρ M) P:=by
 simp only[xZ,ag]
 congr 1;funext r M
 cases r<;>rfl
theorem NQ{cs:List C}:aK (ev G (.tup cs) ρ M) P=aK (a9 G cs ρ M) λds M=>ds.length<=sizeLine/\P (.d (.tup ds)) M:=by
 simp only[x3,ag,fX,aH]
theorem NR{cs:List C}:aK (ev G (.lst cs) ρ M) P=aK (a9 G cs ρ M) λds M=>ds.length<=sizeLine/\P (.lv ds) M:=by
 simp only[x4,ag,fX,aH]
theorem k_sub{a b:C}:aK (ev G (.sub a b) ρ M) P=aK (ev G a ρ M) λx M=>aK (ev G b ρ M) λy M=>aK (dw x y M) P:=by simp only[Gy,ag]
theorem NS{a:C}{lo hi:Option C}:aK (ev G (.rM a lo hi) ρ M) P=aK (ev G a ρ M) λx M=>aK (nN G lo ρ M) λl M=>aK (nN G hi ρ M) λh M=>aK (kh x l h M) P:=by simp only[Gz,ag]
theorem RS{P:Option Int->ab->Prop}:aK (nN G none ρ M) P=P none M:=by simp only[kr,ku,aH]
theorem HC{f:Nat}{cs:List C}:aK (ev G (.call f cs) ρ M) P=aK (a9 G cs ρ M) λds M=>aK (G f ds M) P:=by simp only[rP,ag]
theorem RT{b:Bi}{cs:List C}:aK (ev G (.bi b cs) ρ M) P=aK (cq G cs ρ M) λws M=>aK (ic b ws M) P:=by simp only[x5,ag]
theorem RU{m:Me}{o:C}{cs:List C}:aK (ev G (.me m o cs) ρ M) P=aK (ev G o ρ M) λx M=>(dH M x).isSome=true/\aK (a9 G cs ρ M) λds M=>aK (u5 m x ds M) P:=by
 simp only[x6,ag,fX]
theorem NT{ks:List Str}{cs:List C}:aK (ev G (.uZ ks cs) ρ M) P=aK (a9 G cs ρ M) λds M=>ks.length=ds.length/\P (.d (.aX M.length)) (M++[.dK ((ks.map Sum.inr).zip ds)]):=by
 simp only[qp,ag,fX,aH]
theorem HD{k:SK}{cF:List C}{tg:List Nat}{cond:Option dv}{elt:C}{bY:List (Option Nat)}:aK (ev G (.comp k cF tg cond elt bY) ρ M) P=aK (cq G cF ρ M) λws M=>aK (fF k ws M) λit M=>aK (a8 (λτ M=>bq G cond τ M) (λτ M=>(ev G elt τ M).bind own) it tg (bZ M it) 0 (d_ bY ρ) M []) P:=by simp only[ni,ag]
theorem RV{P:List D->ab->Prop}:aK (a9 G [] ρ M) P=P [] M:=by simp only[eO,dM,aH]
theorem RX{c:C}{cs:List C}{P:List D->ab->Prop}:aK (a9 G (c::cs) ρ M) P=aK (ev G c ρ M) λw M=>aK (own w M) λd M=>aK (a9 G cs ρ M) λds M=>P (d::ds) M:=by simp only[eO,dM,ag,aH]
theorem RY{P:List W->ab->Prop}:aK (cq G [] ρ M) P=P [] M:=by simp only[eP,dN,aH]
theorem RZ{c:C}{cs:List C}{P:List W->ab->Prop}:aK (cq G (c::cs) ρ M) P=aK (ev G c ρ M) λw M=>aK (cq G cs ρ M) λds M=>P (w::ds) M:=by simp only[eP,dN,ag,aH]
theorem NU{c:C}{P:Bool->ab->Prop}:aK (cT G (.val c) ρ M) P=aK (ev G c ρ M) λw M=>∃r,lQ M w=some r/\P r M:=by
 simp only[nj,ag]
 congr 1;funext w M
 cases h:lQ M w with
 | none=>simp only[reduceCtorEq,false_and,exists_false,ai]
 | some r=>simp only[pS,exists_eq_left',aH]
theorem NV{a:dv}{P:Bool->ab->Prop}:aK (cT G (.neg a) ρ M) P=aK (cT G a ρ M) λr M=>P (!r) M:=by simp only[Bd,ag,aH]
theorem HE{a:dv}{P:Bool->ab->Prop}:aK (ed G [a] ρ M) P=aK (cT G a ρ M) P:=by simp only[iY,gK,ag,aH]
theorem HF{a:dv}{P:Bool->ab->Prop}:aK (ef G [a] ρ M) P=aK (cT G a ρ M) P:=by simp only[iZ,gL,ag,aH]
theorem HG{a b:dv}{cs:List dv}{P:Bool->ab->Prop}:aK (ed G (a::b::cs) ρ M) P=aK (cT G a ρ M) λr M=>if r then aK (ed G (b::cs) ρ M) P else P false M:=by
 rw[gK];simp only[ag]
 congr 1;funext r M
 cases r with
 | true=>rfl
 | false=>exact aH
theorem HH{a b:dv}{cs:List dv}{P:Bool->ab->Prop}:aK (ef G (a::b::cs) ρ M) P=aK (cT G a ρ M) λr M=>if r then P true M else aK (ef G (b::cs) ρ M) P:=by
 rw[gL];simp only[ag]
 congr 1;funext r M
 cases r with
 | true=>exact aH
 | false=>rfl
theorem HI{ts:List dv}{P:Bool->ab->Prop}:aK (cT G (.dE ts) ρ M) P=aK (ed G ts ρ M) P:=by simp only[ya]
theorem HJ{ts:List dv}{P:Bool->ab->Prop}:aK (cT G (.eF ts) ρ M) P=aK (ef G ts ρ M) P:=by simp only[yb]
end
section
variable {G:bf} {ρ:En} {M:ab} {nx:En->ab->Prop} {rt:W->ab->Prop} {bk ct:En->ab->Prop}
theorem HK{i:Nat}{c:C}:eh (fK G (.i_ i c) ρ M) nx rt bk ct=aK (ev G c ρ M) λw M=>aK (own w M) λd M=>nx (ρ.set i (some d)) M:=by simp only[o_,de,ag,cP]
theorem NW{o i v:C}:eh (fK G (.put o i v) ρ M) nx rt bk ct=aK (ev G v ρ M) λw M=>aK (own w M) λd M=>aK (ev G o ρ M) λx M=>aK (ev G i ρ M) λy M=>aK (ik x y d M) λ_ M=>nx ρ M:=by simp only[sm,de,ag,cP]
theorem HL{c:C}:eh (fK G (.expr c) ρ M) nx rt bk ct=aK (ev G c ρ M) λ_ M=>nx ρ M:=by simp only[pb,de,cP]
theorem NX{c:C}:eh (fK G (.ret c) ρ M) nx rt bk ct=aK (ev G c ρ M) rt:=by simp only[su,de,fM]
theorem R0{t:dv}{a b:List S}:eh (fK G (.iff t a b) ρ M) nx rt bk ct=aK (cT G t ρ M) λr M=>if r then eh (bX G a ρ M) nx rt bk ct else eh (bX G b ρ M) nx rt bk ct:=by
 simp only[sv,de]
 congr 1;funext r M
 cases r<;>rfl
theorem NY{tg:List Nat}{k:SK}{cF:List C}{b:List S}:eh (fK G (.gk tg k cF b) ρ M) nx rt bk ct=aK (cq G cF ρ M) λws M=>aK (fF k ws M) λit M=>eh (cU (λρ M=>bX G b ρ M) it tg (bZ M it) 0 ρ M) nx rt bk ct:=by
 simp only[pd,de,cw,ag]
theorem NZ:eh (bX G [] ρ M) nx rt bk ct=nx ρ M:=by simp only[pf,mn,cP]
theorem HM{s:S}{ss:List S}:eh (bX G (s::ss) ρ M) nx rt bk ct=eh (fK G s ρ M) (λρ M=>eh (bX G ss ρ M) nx rt bk ct) rt bk ct:=by simp only[pf,mn,BO]
end
theorem nC{body:En->ab->aM}{it:It}{tg:List Nat}{ds:List D}{nx:En->ab->Prop}{rt:W->ab->Prop}{bk ct:En->ab->Prop}(I:Nat->En->ab->Prop)(hd:∀i ρ M,I i ρ M->i<=ds.length->itemAt M i it=some ds[i]?)(hs:∀i ρ M d,I i ρ M->ds[i]?=some d->∃dB,bJ tg d ρ=some dB/\eh (body dB M) (I (i+1)) rt nx (I (i+1)))(he:∀ρ M,I ds.length ρ M->nx ρ M):∀(f i:Nat)(ρ:En)(M:ab),I i ρ M->i+f=ds.length->eh (cU body it tg f i ρ M) nx rt bk ct
 | 0,i,ρ,M,h,e=>by
  unfold cU;have:i=ds.length:=∅;subst this;rw[hd _ _ _ h (a6 _),zR (a6 _)];dsimp only;rw[cP];exact he _ _ h
 | f+1,i,ρ,M,h,e=>by
  unfold cU;have hi:i<ds.length:=∅;rw[hd _ _ _ h (vv hi),jq hi];obtain⟨dB,e1,e2⟩:=hs i ρ M ds[i] h (jq hi);dsimp only;rw[e1];dsimp only
  cases q:body dB M with
  | nx Hq M2=>rw[q,cP]at e2;exact nC I hd hs he f (i+1) Hq M2 e2 ∅
  | ct Hq M2=>rw[q,kY]at e2;exact nC I hd hs he f (i+1) Hq M2 e2 ∅
  | bk Hq M2=>rw[q,kX]at e2;dsimp only;rw[cP];exact e2
  | rt w M2=>rw[q,fM]at e2;dsimp only;rw[fM];exact e2
  | er x M2=>rw[q,gP]at e2;dsimp only;rw[gP];exact e2
  | aa=>rw[q,cv]at e2;exact e2.elim
theorem nD{cond:En->ab->bp Bool}{elt:En->ab->bp D}{it:It}{tg:List Nat}{ds:List D}{P:W->ab->Prop}(I:Nat->En->ab->List D->Prop)(hd:∀i ρ M aB,I i ρ M aB->i<=ds.length->itemAt M i it=some ds[i]?)(hs:∀i ρ M aB d,I i ρ M aB->ds[i]?=some d->aB.length<sizeLine/\∃dB,bJ tg d ρ=some dB/\@aK dA _ (cond dB M) λb M=>if b then @aK dA _ (elt dB M) λx M=>I (i+1) dB M (aB++[x]) else I (i+1) dB M aB)(he:∀ρ M aB,I ds.length ρ M aB->P (.lv aB) M):∀(f i:Nat)(ρ:En)(M:ab)(aB:List D),I i ρ M aB->i+f=ds.length->aK (a8 cond elt it tg f i ρ M aB) P
 | 0,i,ρ,M,aB,h,e=>by
  unfold a8;have:i=ds.length:=∅;subst this;rw[hd _ _ _ _ h (a6 _),zR (a6 _)];dsimp only;rw[aH];exact he _ _ _ h
 | f+1,i,ρ,M,aB,h,e=>by
  unfold a8;have hi:i<ds.length:=∅;rw[hd _ _ _ _ h (vv hi),jq hi];obtain⟨hl,dB,e1,e2⟩:=hs i ρ M aB ds[i] h (jq hi);dsimp only;rw[e1];dsimp only;rw[aG hl,yT];refine @aK.imp dA _ _ _ _ e2 λb M2 q=>?_
  cases b with
  | true =>
   rw[aG rfl]at q⊢;rw[yT];exact @aK.imp dA _ _ _ _ q λx M3 q=>nD I hd hs he f (i+1) dB M3 _ q ∅
  | false =>
   rw[aR (by simp)]at q⊢;exact nD I hd hs he f (i+1) dB M2 _ q ∅
end
section
variable [er:Er]
noncomputable def cz{α:Type}(o:bp α)(P:α->ab->Prop):Prop:=match o with
 | .ok a M=>P a M
 | .err x M=>Er.er x M
 | .aa=>False
theorem HN{o:bp W}{P:W->ab->Prop}:aK (o.b0 .ok) P=@aK dA _ o P:=by
 cases o with
 | ok a M=>rw[aH (er:=dA)];exact aH
 | err _ _=>rw[da (er:=dA)];exact ai
 | aa=>rw[ai (er:=dA)];exact ai
theorem aT{α:Type}{o:bp α}{P:α->ab->Prop}:aK o P=cz o P:=by
 cases o with
 | ok a M=>rw[aH];rfl
 | err _ _=>rw[da];rfl
 | aa=>rw[ai];rfl
noncomputable def uR(x:W)(A B:Prop):Prop:=match x with
 | .d (.bl true)=>A
 | .d (.bl false)=>B
 | _=>False
noncomputable def bK(b:Bool)(A B:Prop):Prop:=match b with
 | true=>A
 | false=>B
theorem sF{b:Bool}{A B:Prop}:bK b A B=if b=true then A else B:=by cases b<;>simp[bK]
noncomputable def BQ(o:Option Bool)(P:Bool->Prop):Prop:=match o with
 | some r=>P r
 | none=>False
noncomputable def N0(o:Option (Option D))(P:D->Prop):Prop:=match o with
 | some (some d)=>P d
 | _=>False
noncomputable def HP(o:Option En)(P:En->Prop):Prop:=match o with
 | some ρ=>P ρ
 | none=>False
noncomputable def N1(w:W)(P:Int->Prop):Prop:=match w with
 | .d (.int i)=>P i
 | _=>False
noncomputable def TH(o:Option Str)(k:Str->Prop):Prop:=match o with
 | some p=>k p
 | none=>False
noncomputable def N2(w:W)(P:Str->Prop):Prop:=match w with
 | .d (.str i)=>P i
 | _=>False
noncomputable def Ek:D->Bool
 | .br=>true
 | _=>false
theorem yU{i:Int}:SeqAt.shaped (.int i)=true:=by unfold SeqAt.shaped;rw[PyData.canLay0.eq_3,PyData.depth.eq_6];rfl
theorem N3{M:ab}{i j:Int}:bM .eq (.d (.int i)) (.d (.int j)) M=.ok (i==j) M:=by
 unfold bM;have h1:∀i,nM M (.d (.int i))=some (.int i):=λi=>by show fU M 30 (.int i)=_;unfold fU;rfl
 simp only[h1,yU,and_self,gY,PyData.eqv.eq_5]
theorem N4{M:ab}{i j:Int}:bM .ne (.d (.int i)) (.d (.int j)) M=.ok (!(i==j)) M:=by
 unfold bM;have h1:∀i,nM M (.d (.int i))=some (.int i):=λi=>by show fU M 30 (.int i)=_;unfold fU;rfl
 simp only[h1,yU,and_self,gY,PyData.eqv.eq_5]
def HQ(op:zG)(x y:W)(M:ab)(P:W->ab->Prop):Prop:=match op,x,y with
 | .add,.d (.int i),.d (.int j)=>P (.d (.int (i+j))) M
 | .sub,.d (.int i),.d (.int j)=>P (.d (.int (i-j))) M
 | .mul,.d (.int i),.d (.int j)=>((-(2 ^ 64)<i/\i<2 ^ 64)\/(-(2 ^ 64)<j/\j<2 ^ 64))/\P (.d (.int (i*j))) M
 | .fdiv,.d (.int i),.d (.int j)=>(0<j/\j<1073741824)/\P (.d (.int (i / j))) M
 | .mod,.d (.int i),.d (.int j)=>0<j/\P (.d (.int (i % j))) M
 | .add,.d (.tup xs),.d (.tup ys)=>xs.length+ys.length<=sizeLine/\P (.d (.tup (xs++ys))) M
 | .add,.lv xs,.lv ys=>xs.length+ys.length<=sizeLine/\P (.lv (xs++ys)) M
 | .mul,.d (.tup xs),.d (.int k)=>(-(2 ^ 63)<=k/\k<2 ^ 63/\xs.length*k.toNat<=sizeLine)/\P (.d (.tup (List.replicate k.toNat xs).flatten)) M
 | op,x,y=>cz (lP op x y M) P
theorem ja{α:Type}{c:Prop}[Decidable c]{a:α}{M:ab}{P:α->ab->Prop}:cz (if c then .ok a M else .aa) P=(c/\P a M):=by
 by_cases h:c
 ·rw[aG h];exact propext ⟨λq=>⟨h,q⟩,λq=>q.2⟩
 ·rw[aR h];exact propext ⟨λq=>q.elim,λq=>absurd q.1 h⟩
theorem BR{op:zG}{x y:W}{M:ab}{P:W->ab->Prop}:cz (lP op x y M) P=HQ op x y M P:=by
 rcases x with⟨_|_ | i | _ | xs | _|_⟩ | xs
 all_goals (first | (cases op<;>rfl) | skip)
 ·rcases y with⟨_|_ | j | _|_|_|_⟩|_<;>cases op<;>first | rfl | exact ja
 ·rcases y with⟨_|_|_|_ | ys | _|_⟩|_<;>cases op<;>first | rfl | exact ja
 ·rcases y with⟨_|_|_|_|_|_|_⟩ | ys<;>cases op<;>first | rfl | exact ja
def qF(op:ux)(x y:W)(M:ab)(P:Bool->ab->Prop):Prop:=match op,x,y with
 | .eq,.d (.int i),.d (.int j)=>P (i==j) M
 | .ne,.d (.int i),.d (.int j)=>P (!(i==j)) M
 | .isN,.d d,_=>P (Ek d) M
 | .notN,.d d,_=>P (!Ek d) M
 | op,x,y=>cz (bM op x y M) P
theorem nE{op:ux}{x y:W}{M:ab}{P:Bool->ab->Prop}:cz (bM op x y M) P=qF op x y M P:=by
 cases op
 case eq=>rcases x with⟨_|_ | i | _|_|_|_⟩|_<;>first | rfl | (rcases y with⟨_|_ | j | _|_|_|_⟩|_<;>first | (rw[N3];rfl) | rfl)
 case ne=>rcases x with⟨_|_ | i | _|_|_|_⟩|_<;>first | rfl | (rcases y with⟨_|_ | j | _|_|_|_⟩|_<;>first | (rw[N4];rfl) | rfl)
 case isN=>rcases x with⟨_|_|_|_|_|_|_⟩|_<;>rfl
 case notN=>rcases x with⟨_|_|_|_|_|_|_⟩|_<;>rfl
 all_goals (first | rfl | (rcases x with⟨_|_|_|_|_|_|_⟩|_<;>rfl))
def yV(k:SK)(ws:List W)(M:ab)(P:It->ab->Prop):Prop:=match k,ws with
 | .rng1,[.d (.int j)]=>(-(2 ^ 62)<=j/\j<2 ^ 62)/\P (.gZ 0 j.toNat) M
 | .rng2,[.d (.int i),.d (.int j)]=>(-(2 ^ 62)<=i/\i<2 ^ 62/\-(2 ^ 62)<=j/\j<2 ^ 62)/\P (.gZ i (j-i).toNat) M
 | k,ws=>cz (fF k ws M) P
theorem sG{k:SK}{ws:List W}{M:ab}{P:It->ab->Prop}:cz (fF k ws M) P=yV k ws M P:=by
 cases k
 case rng1 =>
  rcases ws with _|⟨w,_|⟨_,_⟩⟩
  ·rfl
  all_goals rcases w with⟨_|_|_|_|_|_|_⟩|_<;>first | rfl | exact ja
 case rng2 =>
  rcases ws with _|⟨w,_|⟨v,_|⟨_,_⟩⟩⟩<;>try rfl
  ·rcases w with⟨_|_|_|_|_|_|_⟩|_<;>rfl
  ·rcases w with⟨_|_|_|_|_|_|_⟩|_<;>first | rfl | (rcases v with⟨_|_|_|_|_|_|_⟩|_<;>first | rfl | exact ja)
  ·rcases w with⟨_|_|_|_|_|_|_⟩|_<;>first | rfl | (rcases v with⟨_|_|_|_|_|_|_⟩|_<;>rfl)
 all_goals rfl
def BS(tp:Bool)(ws:List W)(M:ab)(P:W->ab->Prop):Prop:=match ql ws with
 | some (i,j)=>((-(2 ^ 62)<=i/\i<2 ^ 62/\-(2 ^ 62)<=j/\j<2 ^ 62)/\(j-i).toNat<=2 ^ 24)/\P (xW tp (MU i (j-i).toNat)) M
 | none=>False
theorem BU{tp:Bool}{ws:List W}{M:ab}{P:W->ab->Prop}:cz (AY tp ws M) P=BS tp ws M P:=by
 unfold AY BS
 cases ql ws with
 | none=>rfl
 | some ij=>exact ja
mutual
noncomputable def wE(G:bf):C->En->ab->(W->ab->Prop)->Prop
  | .jC i,ρ,M,P=>N0 ρ[i]? λd=>P (.d d) M
  | .a_ d,_,M,P=>P (.d d) M
  | .bin op a b,ρ,M,P=>wE G a ρ M λx M=>wE G b ρ M λy M=>HQ op x y M P
  | .cmp op a b,ρ,M,P=>wE G a ρ M λx M=>wE G b ρ M λy M=>qF op x y M λr M=>P (.d (.bl r)) M
  | .chain o1 o2 a b c, ρ, M, P => wE G a ρ M fun x M => wE G b ρ M fun y M => qF o1 x y M fun r M =>
      bK r (wE G c ρ M λz M=>qF o2 y z M λr M=>P (.d (.bl r)) M) (P (.d (.bl false)) M)
  | .dE cs,ρ,M,P=>uS G cs ρ M P
  | .eF cs,ρ,M,P=>Jl G cs ρ M P
  | .neg a,ρ,M,P=>wE G a ρ M λx M=>uR x (P (.d (.bl false)) M) (P (.d (.bl true)) M)
  | .ite c a b,ρ,M,P=>wT G c ρ M λr M=>bK r (wE G a ρ M P) (wE G b ρ M P)
  | .tup cs,ρ,M,P=>nO G cs ρ M λds M=>ds.length<=sizeLine/\P (.d (.tup ds)) M
  | .lst cs,ρ,M,P=>nO G cs ρ M λds M=>ds.length<=sizeLine/\P (.lv ds) M
  | .sub a b,ρ,M,P=>wE G a ρ M λx M=>wE G b ρ M λy M=>cz (dw x y M) P
  | .rM a lo hi,ρ,M,P=>wE G a ρ M λx M=>wO G lo ρ M λl M=>wO G hi ρ M λh M=>cz (kh x l h M) P
  | .call f cs,ρ,M,P=>nO G cs ρ M λds M=>aK (G f ds M) P
  | .bi b cs,ρ,M,P=>uT G cs ρ M λws M=>cz (ic b ws M) P
  | .me m o cs,ρ,M,P=>wE G o ρ M λx M=>(dH M x).isSome=true/\nO G cs ρ M λds M=>cz (u5 m x ds M) P
  | .uZ ks cs,ρ,M,P=>nO G cs ρ M λds M=>ks.length=ds.length/\P (.d (.aX M.length)) (M++[.dK ((ks.map Sum.inr).zip ds)])
  | .gZ tp cs,ρ,M,P=>uT G cs ρ M λws M=>BS tp ws M P
  | .uy _ v,_,M,P=>P (.d (.int v)) M
  | .lM ng a,ρ,M,P=>wE G a ρ M λx M=>cz (rO ng x M) P
  | .lN pt a b,ρ,M,P=>wE G a ρ M λx M=>N2 x λz=>wE G b ρ M λy M=>cz (gI pt (.d (.str z)) y M) P
  | .uz lit a b,ρ,M,P=>wE G a ρ M λx M=>TH (A_ lit x) λp=>wE G b ρ M λy M=>cz (D0 lit p y M) P
  | .cat a b,ρ,M,P=>wE G a ρ M λx M=>wE G b ρ M λy M=>cz (qo x y M) P
  | .ib _ tt b,ρ,M,P=>wE G b ρ M λy M=>cz (nh tt y M) P
  | .lO _ tt a,ρ,M,P=>wE G a ρ M λy M=>cz (uB tt y M) P
  | .u4 a,ρ,M,P=>wE G a ρ M λx M=>cz (oP x M) P
  | .qi cC a,ρ,M,P=>wE G a ρ M λx M=>cz (km cC x M) P
  | .oK _ a,_,M,P=>P (.d (.fn a)) M
  | .qj _ v,_,M,P=>P (.d (.str v)) M
  | .cM i tb cs,ρ,M,P=>match uC ρ i tb with
    | some f=>nO G cs ρ M λds M=>aK (G f ds M) P
    | none=>False
  | .xf a f,ρ,M,P=>wE G a ρ M λx M=>cz (Pa f x M) P
  | .AX a _ tb,ρ,M,P=>wE G a ρ M λx M=>cz (AZ tb x M) P
  | .jj f cs,ρ,M,P=>nO G cs ρ M λds M=>@aK dA _ (G f ds M) P
  | .comp k cF tg cond elt bY,ρ,M,P=>uT G cF ρ M λws M=>yV k ws M λit M=>aK (a8 (λτ M=>bq G cond τ M) (λτ M=>(ev G elt τ M).bind own) it tg (bZ M it) 0 (d_ bY ρ) M []) P
noncomputable def wT(G:bf):dv->En->ab->(Bool->ab->Prop)->Prop
 | .dE ts,ρ,M,P=>HR G ts ρ M P
 | .eF ts,ρ,M,P=>HS G ts ρ M P
 | .neg a,ρ,M,P=>wT G a ρ M λr M=>P (!r) M
 | .val c,ρ,M,P=>wE G c ρ M λw M=>BQ (lQ M w) λr=>P r M
noncomputable def uS(G:bf):List C->En->ab->(W->ab->Prop)->Prop
 | [],_,_,_=>False
 | c::cs,ρ,M,P=>match cs with
  | []=>wE G c ρ M P
  | _::_=>wE G c ρ M λx M=>uR x (uS G cs ρ M P) (P (.d (.bl false)) M)
noncomputable def Jl(G:bf):List C->En->ab->(W->ab->Prop)->Prop
 | [],_,_,_=>False
 | c::cs,ρ,M,P=>match cs with
  | []=>wE G c ρ M P
  | _::_=>wE G c ρ M λx M=>uR x (P (.d (.bl true)) M) (Jl G cs ρ M P)
noncomputable def HR(G:bf):List dv->En->ab->(Bool->ab->Prop)->Prop
 | [],_,_,_=>False
 | c::cs,ρ,M,P=>match cs with
  | []=>wT G c ρ M P
  | _::_=>wT G c ρ M λr M=>bK r (HR G cs ρ M P) (P false M)
noncomputable def HS(G:bf):List dv->En->ab->(Bool->ab->Prop)->Prop
 | [],_,_,_=>False
 | c::cs,ρ,M,P=>match cs with
  | []=>wT G c ρ M P
  | _::_=>wT G c ρ M λr M=>bK r (P true M) (HS G cs ρ M P)
noncomputable def nO(G:bf):List C->En->ab->(List D->ab->Prop)->Prop
 | [],_,M,P=>P [] M
 | c::cs,ρ,M,P=>wE G c ρ M λw M=>cz (own w M) λd M=>nO G cs ρ M λds M=>P (d::ds) M
noncomputable def uT(G:bf):List C->En->ab->(List W->ab->Prop)->Prop
 | [],_,M,P=>P [] M
 | c::cs,ρ,M,P=>wE G c ρ M λw M=>uT G cs ρ M λws M=>P (w::ws) M
noncomputable def wO(G:bf):Option C->En->ab->(Option Int->ab->Prop)->Prop
 | none,_,M,P=>P none M
 | some c,ρ,M,P=>wE G c ρ M λw M=>N1 w λi=>P (some i) M
end
section
variable {G:bf} {lo hi:Option C} {cond:Option dv}
theorem HU:wE G (.jC i) ρ M P=N0 ρ[i]? λd=>P (.d d) M:=rfl
theorem HV:wE G (.bin op a b) ρ M P=wE G a ρ M λx M=>wE G b ρ M λy M=>HQ op x y M P:=rfl
theorem HW:wE G (.cmp op a b) ρ M P=wE G a ρ M λx M=>wE G b ρ M λy M=>qF op x y M λr M=>P (.d (.bl r)) M:=rfl
theorem yW : wE G (.chain o1 o2 a b c) ρ M P = (wE G a ρ M fun x M => wE G b ρ M fun y M => qF o1 x y M fun r M =>
      bK r (wE G c ρ M λz M=>qF o2 y z M λr M=>P (.d (.bl r)) M) (P (.d (.bl false)) M)):=rfl
theorem HX:wE G (.neg a) ρ M P=wE G a ρ M λx M=>uR x (P (.d (.bl false)) M) (P (.d (.bl true)) M):=rfl
theorem HY:wE G (.ite c a b) ρ M P=wT G c ρ M λr M=>bK r (wE G a ρ M P) (wE G b ρ M P):=rfl
theorem HZ:wE G (.sub a b) ρ M P=wE G a ρ M λx M=>wE G b ρ M λy M=>cz (dw x y M) P:=rfl
theorem H0:wE G (.rM a lo hi) ρ M P=wE G a ρ M λx M=>wO G lo ρ M λl M=>wO G hi ρ M λh M=>cz (kh x l h M) P:=rfl
theorem N5:wE G (.bi b cs) ρ M P=uT G cs ρ M λws M=>cz (ic b ws M) P:=rfl
theorem N6:wE G (.me m o cs) ρ M P=wE G o ρ M λx M=>(dH M x).isSome=true/\nO G cs ρ M λds M=>cz (u5 m x ds M) P:=rfl
theorem H_:wE G (.gZ tp cs) ρ M P=uT G cs ρ M λws M=>BS tp ws M P:=rfl
theorem BV:wE G (.lM ng a) ρ M P=wE G a ρ M λx M=>cz (rO ng x M) P:=rfl
theorem N7{f:Str}:wE G (.xf a f) ρ M P=wE G a ρ M λx M=>cz (Pa f x M) P:=rfl
theorem Ia{k:IX}{tb:List (Addr×Bool)}:wE G (.AX a k tb) ρ M P=wE G a ρ M λx M=>cz (AZ tb x M) P:=rfl
theorem Ib{pt:Bool}{a b:C}:wE G (.lN pt a b) ρ M P=wE G a ρ M λx M=>N2 x λz=>wE G b ρ M λy M=>cz (gI pt (.d (.str z)) y M) P:=rfl
theorem Ic{lit:Str}{a b:C}:wE G (.uz lit a b) ρ M P=wE G a ρ M λx M=>TH (A_ lit x) λp=>wE G b ρ M λy M=>cz (D0 lit p y M) P:=rfl
theorem Ie{a b:C}:wE G (.cat a b) ρ M P=wE G a ρ M λx M=>wE G b ρ M λy M=>cz (qo x y M) P:=rfl
theorem BW{x:Str}{tt:lC}{b:C}:wE G (.ib x tt b) ρ M P=wE G b ρ M λy M=>cz (nh tt y M) P:=rfl
theorem Ig{x:Str}{tt:lC}{a:C}:wE G (.lO x tt a) ρ M P=wE G a ρ M λy M=>cz (uB tt y M) P:=rfl
theorem Ih{a:C}:wE G (.u4 a) ρ M P=wE G a ρ M λx M=>cz (oP x M) P:=rfl
theorem Ii{cC:Str}{a:C}:wE G (.qi cC a) ρ M P=wE G a ρ M λx M=>cz (km cC x M) P:=rfl
theorem yX{i:Nat}{tb:List (Addr×Nat)}{cs:List C}:wE G (.cM i tb cs) ρ M P=(match uC ρ i tb with
 | some f=>nO G cs ρ M λds M=>aK (G f ds M) P
 | none=>False):=rfl
theorem BX:wE G (.comp k cF tg cond elt bY) ρ M P=uT G cF ρ M λws M=>yV k ws M λit M=>aK (a8 (λτ M=>bq G cond τ M) (λτ M=>(ev G elt τ M).bind own) it tg (bZ M it) 0 (d_ bY ρ) M []) P:=rfl
theorem Ij:wT G (.val c) ρ M P=wE G c ρ M λw M=>BQ (lQ M w) λr=>P r M:=rfl
theorem yY:uS G [] u0 u1 u2=False:=rfl
theorem mx : uS G (c :: cs) ρ M P = (match cs with
    | []=>wE G c ρ M P
    | _::_=>wE G c ρ M λx M=>uR x (uS G cs ρ M P) (P (.d (.bl false)) M)):=rfl
theorem BY:Jl G [] u0 u1 u2=False:=rfl
theorem pq : Jl G (c :: cs) ρ M P = (match cs with
    | []=>wE G c ρ M P
    | _::_=>wE G c ρ M λx M=>uR x (P (.d (.bl true)) M) (Jl G cs ρ M P)):=rfl
theorem BZ:nO G [] u0 M P=P [] M:=rfl
theorem yZ:nO G (c::cs) ρ M P=wE G c ρ M λw M=>cz (own w M) λd M=>nO G cs ρ M λds M=>P (d::ds) M:=rfl
theorem B0:uT G [] u0 M P=P [] M:=rfl
theorem y0:uT G (c::cs) ρ M P=wE G c ρ M λw M=>uT G cs ρ M λws M=>P (w::ws) M:=rfl
theorem B1:wO G none u0 M P=P none M:=rfl
theorem B2:wO G (some c) ρ M P=wE G c ρ M λw M=>N1 w λi=>P (some i) M:=rfl
end
def kZ(G:bf)(o:Option dv)(ρ:En)(M:ab)(P:Bool->ab->Prop):Prop:=match o with
 | none=>P true M
 | some t=>wT G t ρ M P
mutual
theorem d9{G:bf}:∀(c:C)(ρ:En)(M:ab)(P:W->ab->Prop),aK (ev G c ρ M) P=wE G c ρ M P
 | .jC i,ρ,M,P=>by
  simp only[xX,HU];rcases ρ[i]? with _|_ | d
  ·exact ai
  ·exact ai
  ·exact aH
 | .a_ d,ρ,M,P=>by rw[NM];rfl
 | .bin op a b,ρ,M,P=>by rw[NN,d9 a];simp only[d9 b,aT,HV,BR]
 | .cmp op a b,ρ,M,P=>by rw[NO,d9 a];simp only[d9 b,aT,HW,nE]
 | .chain o1 o2 a b c,ρ,M,P=>by
  simp only[oQ,ag,yW];rw[d9 a]
  congr 1;funext x M
  rw[d9 b]
  congr 1;funext y M
  rw[aT,nE]
  congr 1;funext r M
  cases r with
  | true=>simp only[ag,aH,gY,d9 c];simp only[aT,nE];rfl
  | false=>simp[aH,bK]
 | .dE cs,ρ,M,P=>by rw[Ba,w_and cs];rfl
 | .eF cs,ρ,M,P=>by rw[Bb,w_or cs];rfl
 | .neg a,ρ,M,P=>by
  simp only[Gx,ag,HX];rw[d9 a]
  congr 1;funext x M
  rcases x with⟨_ | b | _|_|_|_|_⟩|_
  ·exact ai
  ·cases b<;>exact aH
  all_goals exact ai
 | .ite c a b,ρ,M,P=>by rw[NP,El c];simp only[d9 a,d9 b,HY,sF]
 | .tup cs,ρ,M,P=>by rw[NQ,lT cs];rfl
 | .lst cs,ρ,M,P=>by rw[NR,lT cs];rfl
 | .sub a b,ρ,M,P=>by rw[k_sub,d9 a];simp only[d9 b,aT,HZ]
 | .rM a lo hi,ρ,M,P=>by rw[NS,d9 a];simp only[TJ lo,TJ hi,aT,H0]
 | .call f cs,ρ,M,P=>by rw[HC,lT cs];rfl
 | .bi b cs,ρ,M,P=>by rw[RT,y1 cs];simp only[aT,N5]
 | .me m o cs,ρ,M,P=>by rw[RU,d9 o];simp only[lT cs,aT,N6]
 | .uZ ks cs,ρ,M,P=>by rw[NT,lT cs];rfl
 | .gZ tp cs,ρ,M,P=>by simp only[GA,ag,H_];rw[y1 cs];simp only[aT,BU]
 | .uy x v,ρ,M,P=>by rw[GB];exact aH
 | .lM ng a,ρ,M,P=>by simp only[Bc,ag,BV];rw[d9 a];simp only[aT]
 | .xf a f,ρ,M,P=>by simp only[MV,ag,N7];rw[d9 a];simp only[aT]
 | .AX a k tb,ρ,M,P=>by simp only[GC,ag,Ia];rw[d9 a];simp only[aT]
 | .jj f cs,ρ,M,P=>by
  rw[x8,ag,lT cs];show nO G cs ρ M _=nO G cs ρ M _
  congr 1;funext ds M
  exact HN
 | .lN pt a b,ρ,M,P=>by
  simp only[GF,ag,Ib];rw[d9 a]
  congr 1;funext x M
  rcases x with⟨_|_|_ | z | _|_|_⟩|_
  ·exact ai
  ·exact ai
  ·exact ai
  ·simp only[ag,d9 b];simp only[aT];rfl
  all_goals exact ai
 | .uz lit a b,ρ,M,P=>by
  simp only[x9,ag,Ic];rw[d9 a]
  congr 1;funext x M
  cases A_ lit x with
  | none=>exact ai
  | some p=>simp only[ag,d9 b];simp only[aT];rfl
 | .cat a b,ρ,M,P=>by simp only[GG,ag,Ie];rw[d9 a];congr 1;funext x M;rw[d9 b];simp only[aT]
 | .ib x tt b,ρ,M,P=>by simp only[rQ,ag,BW];rw[d9 b];simp only[aT]
 | .lO x tt a,ρ,M,P=>by simp only[qq,ag,Ig];rw[d9 a];simp only[aT]
 | .u4 a,ρ,M,P=>by simp only[x_,ag,Ih];rw[d9 a];simp only[aT]
 | .qi cC a,ρ,M,P=>by simp only[GH,ag,Ii];rw[d9 a];simp only[aT]
 | .oK _ a,_,M,P=>aH
 | .qj _ v,_,M,P=>aH
 | .cM i tb cs,ρ,M,P=>by
  rw[oR,yX]
  cases uC ρ i tb with
  | some f=>dsimp only;rw[ag,lT cs]
  | none=>exact ai
 | .comp k cF tg cond elt bY,ρ,M,P=>by rw[HD,y1 cF];simp only[aT,BX,sG]
theorem El{G:bf}:∀(c:dv)(ρ:En)(M:ab)(P:Bool->ab->Prop),aK (cT G c ρ M) P=wT G c ρ M P
 | .dE cs,ρ,M,P=>by rw[HI,w_all cs];rfl
 | .eF cs,ρ,M,P=>by rw[HJ,w_any cs];rfl
 | .neg a,ρ,M,P=>by rw[NV,El a];rfl
 | .val c,ρ,M,P=>by
  rw[NU,d9 c];simp only[Ij]
  congr 1;funext w M
  cases lQ M w with
  | none=>simp[BQ]
  | some r=>simp[BQ]
theorem w_and{G:bf}:∀(cs:List C)(ρ:En)(M:ab)(P:W->ab->Prop),aK (gu G cs ρ M) P=uS G cs ρ M P
 | [],ρ,M,P=>by rw[iV];exact ai
 | [c],ρ,M,P=>by simp only[iV,gJ,yY,mx,ag,aH,d9 c]
 | c::b::cs,ρ,M,P=>by
  rw[gJ,mx,ag,d9 c]
  congr 1;funext x M
  rw[<- w_and (b::cs)];rcases x with⟨_ | b | _|_|_|_|_⟩|_
  ·exact ai
  ·cases b with
   | true=>rfl
   | false=>exact aH
  all_goals exact ai
theorem w_or{G:bf}:∀(cs:List C)(ρ:En)(M:ab)(P:W->ab->Prop),aK (lS G cs ρ M) P=Jl G cs ρ M P
 | [],ρ,M,P=>by rw[ko];exact ai
 | [c],ρ,M,P=>by simp only[ko,iX,BY,pq,ag,aH,d9 c]
 | c::b::cs,ρ,M,P=>by
  rw[iX,pq,ag,d9 c]
  congr 1;funext x M
  rw[<- w_or (b::cs)];rcases x with⟨_ | b | _|_|_|_|_⟩|_
  ·exact ai
  ·cases b with
   | true=>exact aH
   | false=>rfl
  all_goals exact ai
theorem w_all{G:bf}:∀(cs:List dv)(ρ:En)(M:ab)(P:Bool->ab->Prop),aK (ed G cs ρ M) P=HR G cs ρ M P
 | [],ρ,M,P=>by rw[iY];exact ai
 | [c],ρ,M,P=>by rw[HE,El c];rfl
 | c::b::cs,ρ,M,P=>by rw[HG,El c];simp only[w_all (b::cs),<- sF];rfl
theorem w_any{G:bf}:∀(cs:List dv)(ρ:En)(M:ab)(P:Bool->ab->Prop),aK (ef G cs ρ M) P=HS G cs ρ M P
 | [],ρ,M,P=>by rw[iZ];exact ai
 | [c],ρ,M,P=>by rw[HF,El c];rfl
 | c::b::cs,ρ,M,P=>by rw[HH,El c];simp only[w_any (b::cs),<- sF];rfl
theorem lT{G:bf}:∀(cs:List C)(ρ:En)(M:ab)(P:List D->ab->Prop),aK (a9 G cs ρ M) P=nO G cs ρ M P
 | [],ρ,M,P=>by rw[RV];rfl
 | c::cs,ρ,M,P=>by rw[RX,d9 c];simp only[lT cs,aT,BZ,yZ]
theorem y1{G:bf}:∀(cs:List C)(ρ:En)(M:ab)(P:List W->ab->Prop),aK (cq G cs ρ M) P=uT G cs ρ M P
 | [],ρ,M,P=>by rw[RY];rfl
 | c::cs,ρ,M,P=>by rw[RZ,d9 c];simp only[y1 cs,aT,B0,y0]
theorem TJ{G:bf}:∀(o:Option C)(ρ:En)(M:ab)(P:Option Int->ab->Prop),aK (nN G o ρ M) P=wO G o ρ M P
 | none,ρ,M,P=>by rw[RS];rfl
 | some c,ρ,M,P=>by
  simp only[kr,ku,ag,B1,B2];rw[d9 c]
  congr 1;funext x M
  rcases x with⟨_|_ | z | _|_|_|_⟩|_
  ·exact ai
  ·exact ai
  ·exact aH
  all_goals exact ai
end
theorem w_cond{G:bf}{o:Option dv}{ρ:En}{M:ab}{P:Bool->ab->Prop}:aK (bq G o ρ M) P=kZ G o ρ M P:=by
 cases o with
 | none=>exact aH
 | some t=>exact El t ρ M P
theorem pv{G:bf}{c:C}{ρ:En}{M:ab}{P:D->ab->Prop}:aK ((ev G c ρ M).bind own) P=wE G c ρ M λw M=>cz (own w M) P:=by
 rw[ag,d9];simp only[aT]
mutual
noncomputable def wS(G:bf):S->En->ab->(En->ab->Prop)->(W->ab->Prop)->(En->ab->Prop)->(En->ab->Prop)->Prop
 | .asg tg c,ρ,M,nx,_,_,_=>wE G c ρ M λw M=>cz (own w M) λd M=>HP (bJ tg d ρ) λρ=>nx ρ M
 | .i_ i c,ρ,M,nx,_,_,_=>wE G c ρ M λw M=>cz (own w M) λd M=>nx (ρ.set i (some d)) M
 | .put o i v,ρ,M,nx,_,_,_=>wE G v ρ M λw M=>cz (own w M) λd M=>wE G o ρ M λx M=>wE G i ρ M λy M=>cz (ik x y d M) λ_ M=>nx ρ M
 | .dput o i v,ρ,M,nx,_,_,_=>wE G v ρ M λw M=>cz (own w M) λd M=>wE G o ρ M λx M=>wE G i ρ M λy M=>cz (rN x y d M) λ_ M=>nx ρ M
 | .par i j a b,ρ,M,nx,_,_,_=>wE G a ρ M λw M=>cz (own w M) λx M=>wE G b ρ M λw M=>cz (own w M) λy M=>nx ((ρ.set i (some x)).set j (some y)) M
 | .expr c,ρ,M,nx,_,_,_=>wE G c ρ M λ_ M=>nx ρ M
 | .ret c,ρ,M,_,rt,_,_=>wE G c ρ M rt
 | .yL,_,M,_,rt,_,_=>rt (.d .br) M
 | .iff t a b,ρ,M,nx,rt,bk,ct=>wT G t ρ M λr M=>bK r (fv G a ρ M nx rt bk ct) (fv G b ρ M nx rt bk ct)
 | .gk tg k cF b,ρ,M,nx,rt,bk,ct=>uT G cF ρ M λws M=>yV k ws M λit M=>eh (cU (λρ M=>bX G b ρ M) it tg (bZ M it) 0 ρ M) nx rt bk ct
 | .Hl n t b,ρ,M,nx,rt,bk,ct=>eh (uO (λρ M=>cT G t ρ M) (λρ M=>bX G b ρ M) n ρ M) nx rt bk ct
 | .Hm a f c,ρ,M,_,_,_,_=>nO G c ρ M λds M=>Er.er ⟨a,f.zip ds⟩ M
 | .uN b cb mt j h,ρ,M,nx,rt,bk,ct=>eh (fK G (.uN b cb mt j h) ρ M) nx rt bk ct
 | .jE r c,ρ,M,nx,rt,_,_=>@wE dA G c ρ M λw M=>(match r with
  | true=>rt w M
  | false=>nx ρ M)
 | .never,_,_,_,_,_,_=>False
 | .pass,ρ,M,nx,_,_,_=>nx ρ M
 | .brk,ρ,M,_,_,bk,_=>bk ρ M
 | .cont,ρ,M,_,_,_,ct=>ct ρ M
noncomputable def fv(G:bf):List S->En->ab->(En->ab->Prop)->(W->ab->Prop)->(En->ab->Prop)->(En->ab->Prop)->Prop
 | [],ρ,M,nx,_,_,_=>nx ρ M
 | s::ss,ρ,M,nx,rt,bk,ct=>wS G s ρ M (λρ M=>fv G ss ρ M nx rt bk ct) rt bk ct
end
section
variable {G:bf} {lo hi:Option C} {cond:Option dv} {nx bk ct:En->ab->Prop} {rt:W->ab->Prop}
theorem Ik:wS G (.asg tg c) ρ M nx u0 u1 u2=wE G c ρ M λw M=>cz (own w M) λd M=>HP (bJ tg d ρ) λρ=>nx ρ M:=rfl
theorem B3:wS G (.i_ i c) ρ M nx u0 u1 u2=wE G c ρ M λw M=>cz (own w M) λd M=>nx (ρ.set i (some d)) M:=rfl
theorem Il:wS G (.put o i v) ρ M nx u0 u1 u2=wE G v ρ M λw M=>cz (own w M) λd M=>wE G o ρ M λx M=>wE G i ρ M λy M=>cz (ik x y d M) λ_ M=>nx ρ M:=rfl
theorem B4:wS G (.dput o i v) ρ M nx u0 u1 u2=wE G v ρ M λw M=>cz (own w M) λd M=>wE G o ρ M λx M=>wE G i ρ M λy M=>cz (rN x y d M) λ_ M=>nx ρ M:=rfl
theorem Im:wS G (.par i j a b) ρ M nx u0 u1 u2=wE G a ρ M λw M=>cz (own w M) λx M=>wE G b ρ M λw M=>cz (own w M) λy M=>nx ((ρ.set i (some x)).set j (some y)) M:=rfl
theorem Io:wS G (.iff t a b) ρ M nx rt bk ct=wT G t ρ M λr M=>bK r (fv G a ρ M nx rt bk ct) (fv G b ρ M nx rt bk ct):=rfl
theorem B5:wS G (.gk tg k cF b) ρ M nx rt bk ct=uT G cF ρ M λws M=>yV k ws M λit M=>eh (cU (λρ M=>bX G b ρ M) it tg (bZ M it) 0 ρ M) nx rt bk ct:=rfl
theorem Iq:wS G (.Hl n t b) ρ M nx rt bk ct=eh (uO (λρ M=>cT G t ρ M) (λρ M=>bX G b ρ M) n ρ M) nx rt bk ct:=rfl
theorem Ir{f:List Str}{c:List C}:wS G (.Hm a f c) ρ M u0 u1 u2 u3=nO G c ρ M λds M=>Er.er ⟨a,f.zip ds⟩ M:=rfl
end
mutual
theorem VZ{G:bf}:∀(s:S)(ρ:En)(M:ab)(nx:En->ab->Prop)(rt:W->ab->Prop)(bk ct:En->ab->Prop),eh (fK G s ρ M) nx rt bk ct=wS G s ρ M nx rt bk ct
 | .asg tg c,ρ,M,nx,rt,bk,ct=>by
  simp only[sk,de,Ik];rw[pv]
  congr 1;funext w M
  congr 1;funext d M
  cases bJ tg d ρ with
  | none=>exact cv
  | some ρ=>exact cP
 | .i_ i c,ρ,M,nx,rt,bk,ct=>by rw[HK,d9 c];simp only[aT,B3]
 | .put o i v,ρ,M,nx,rt,bk,ct=>by rw[NW,d9 v];simp only[d9 o,d9 i,aT,Il]
 | .dput o i v,ρ,M,nx,rt,bk,ct=>by
  simp only[yM,de,B4];rw[pv];simp only[d9 o,d9 i,aT,cP]
 | .par i j a b,ρ,M,nx,rt,bk,ct=>by
  simp only[BG,de];rw[lT];show wE G a ρ M (λw M=>cz (own w M) λx M=>wE G b ρ M λw M=>cz (own w M) λy M=>eh (.nx ((ρ.set i (some x)).set j (some y)) M) nx rt bk ct)=_;simp only[cP,Im]
 | .expr c,ρ,M,nx,rt,bk,ct=>by rw[HL,d9 c];rfl
 | .ret c,ρ,M,nx,rt,bk,ct=>by rw[NX,d9 c];rfl
 | .yL,ρ,M,nx,rt,bk,ct=>fM
 | .iff t a b,ρ,M,nx,rt,bk,ct=>by rw[R0,El t];simp only[uU a,uU b,Io,sF]
 | .gk tg k cF b,ρ,M,nx,rt,bk,ct=>by rw[NY,y1 cF];simp only[aT,B5,sG]
 | .Hl n t b,ρ,M,nx,rt,bk,ct=>by simp only[BH,Iq]
 | .Hm a f c,ρ,M,nx,rt,bk,ct=>by
  simp only[BI,de];rw[lT];simp only[gP,Ir]
 | .uN b cb mt j h,ρ,M,nx,rt,bk,ct=>rfl
 | .jE r c,ρ,M,nx,rt,bk,ct=>by
  show eh (fK G (.jE r c) ρ M) nx rt bk ct=@wE dA G c ρ M _;rw[pe,<- @d9 dA G c]
  cases ev G c ρ M with
  | ok w M1=>cases r<;>(rw[@aH dA];first | exact fM | exact cP)
  | err x M1=>rw[cv,@da dA];rfl
  | aa=>rw[cv,@ai dA]
 | .never,ρ,M,nx,rt,bk,ct=>cv
 | .pass,ρ,M,nx,rt,bk,ct=>cP
 | .brk,ρ,M,nx,rt,bk,ct=>kX
 | .cont,ρ,M,nx,rt,bk,ct=>kY
theorem uU{G:bf}:∀(ss:List S)(ρ:En)(M:ab)(nx:En->ab->Prop)(rt:W->ab->Prop)(bk ct:En->ab->Prop),eh (bX G ss ρ M) nx rt bk ct=fv G ss ρ M nx rt bk ct
 | [],ρ,M,nx,rt,bk,ct=>NZ
 | s::ss,ρ,M,nx,rt,bk,ct=>by rw[HM,VZ s];simp only[uU ss];rfl
end
theorem b_{G:bf}{n:Nat}{b:List S}{ds:List D}{M:ab}{P:W->ab->Prop}:aK (aq G n b ds M) P=fv G b (ff n ds) M (λ_ M=>P (.d .br) M) P (λ_ _=>False) (λ_ _=>False):=by
 rw[BP,uU]
end
section
variable [er:Er]
abbrev Fn:=List D->ab->bp W
noncomputable def Fr(w:Nat)(M M':ab):Prop:=M.length<=M'.length/\∀n,n<M.length->n≠w->M'[n]?=M[n]?
abbrev Ex(M M':ab):Prop:=Fr M.length M M'
theorem cJ{M:ab}{n:Nat}{o:MO}(h:M[n]?=some o):n<M.length:=(eU.mp h).1
theorem fY{M X:ab}{n:Nat}{o:MO}(h:M[n]?=some o):(M++X)[n]?=some o:=by rw[gz (cJ h)];exact h
theorem bB{M:ab}{o:MO}:(M++[o])[M.length]?=some o:=by simp
theorem dJ{M:ab}{n m:Nat}{o u:MO}(h:M[n]?=some o)(hn:n≠m):(M.set m u)[n]?=some o:=by rw[nR (ju hn)];exact h
theorem dq{M:ab}{n:Nat}{o u:MO}(h:M[n]?=some o):(M.set n u)[n]?=some u:=tu (cJ h)
theorem Fr.refl(w:Nat)(M:ab):Fr w M M:=⟨a6 _,λ_ _ _=>rfl⟩
theorem Fr.trans{w:Nat}{M M1 M2:ab}(a:Fr w M M1)(b:Fr w M1 M2):Fr w M M2:=⟨d7 a.1 b.1,λn h k=>(b.2 n (eV h a.1) k).trans (a.2 n h k)⟩
theorem Fr.app{w:Nat}{M M1 X:ab}(a:Fr w M M1):Fr w M (M1++X):=⟨by have:=a.1;simp only[eW];omega,λn h k=>by rw[gz (eV h a.1)];exact a.2 n h k⟩
theorem Fr.set{w n:Nat}{M M1:ab}{o:MO}(a:Fr w M M1)(h:M.length<=n):Fr w M (M1.set n o):=⟨by rw[z_];exact a.1,λm hm k=>by rw[nR ∅];exact a.2 m hm k⟩
theorem Fr.y2{w:Nat}{M M1:ab}{o:MO}(a:Fr w M M1):Fr w M (M1.set w o):=⟨by rw[z_];exact a.1,λm hm k=>by rw[nR (ju k)];exact a.2 m hm k⟩
theorem Fr.get{w n:Nat}{M M1:ab}{o:MO}(a:Fr w M M1)(h:M[n]?=some o)(k:n≠w):M1[n]?=some o:=(a.2 n (cJ h) k).trans h
theorem Fr.back{w v:Nat}{M M1 M2:ab}(a:Fr w M M1)(b:Fr v M1 M2)(h:M.length<=v\/v=w):Fr w M M2:=⟨d7 a.1 b.1,λn hn k=>(b.2 n (eV hn a.1) ∅).trans (a.2 n hn k)⟩
theorem Ex.refl(M:ab):Ex M M:=Fr.refl _ M
theorem Ex.get{n:Nat}{M M1:ab}{o:MO}(a:Ex M M1)(h:M[n]?=some o):M1[n]?=some o:=Fr.get a h (eM (cJ h))
theorem Ex.trans{M M1 M2:ab}(a:Ex M M1)(b:Ex M1 M2):Ex M M2:=Fr.back a b (.inl a.1)
section
variable {M:ab} {n:Nat} {ds:List D} {i:Int} {x:D}
theorem sH(hi:0<=i)(h:ds[i.toNat]?=some x):Ji ds i=some x:=by
 have hl:=(eU.mp h).1;unfold Ji oA zE;rw[aG hi,aG ∅];exact h
theorem eo(hM:M[n]?=some (.lst ds))(hi:0<=i)(h:ds[i.toNat]?=some x):dw (.d (.aX n)) (.d (.int i)) M=.ok (.d x) M:=by
 unfold dw bL;simp only[hM,sH hi h]
theorem Iu(hi:0<=i)(h:ds[i.toNat]?=some x):dw (.lv ds) (.d (.int i)) M=.ok (.d x) M:=by
 unfold dw bL;simp only[sH hi h]
theorem sI(hi:0<=i)(h:ds[i.toNat]?=some x):dw (.d (.tup ds)) (.d (.int i)) M=.ok (.d x) M:=by
 unfold dw bL;simp only[sH hi h]
theorem k7(hM:M[n]?=some (.lst ds))(hl:ds.length<sizeLine):u5 .append (.d (.aX n)) [x] M=.ok (.d .br) (M.set n (.lst (ds++[x]))):=by
 unfold u5;simp only[hM,aG hl]
theorem k8(hM:M[n]?=some (.lst ds)):(dH M (.d (.aX n))).isSome=true:=by unfold dH;simp only[hM];rfl
theorem iB(hM:M[n]?=some (.lst ds)):ic .len [.d (.aX n)] M=.ok (.d (.int ds.length)) M:=by unfold ic bL;simp only[hM]
theorem jb(hM:M[n]?=some (.lst ds)):ic .tuple1 [.d (.aX n)] M=.ok (.d (.tup ds)) M:=by unfold ic bL;simp only[hM]
theorem qG(hM:M[n]?=some (.lst ds)):fF .seq [.d (.aX n)] M=.ok (.at n) M:=by
 unfold fF bL;simp only[hM];rfl
theorem Iv(hM:M[n]?=some (.lst ds)):bZ M (.at n)=ds.length:=by unfold bZ;simp only[hM]
end
theorem af{n:Nat}(h:n<=1000):n<=sizeLine:=d7 h (by decide)
theorem bS{n:Nat}(h:n<=1000):n<sizeLine:=Nat.lt_of_le_of_lt h (by decide)
theorem c_{α:Type}{l:List α}{k:Nat}{x:α}(h:l[k]?=some x):l.take (k+1)=l.take k++[x]:=by
 rw[List.take_add_one,h];rfl
theorem nF{x:Str}(h:PyData.strOk x=true):SeqAt.shaped (.str x)=true:=by
 unfold SeqAt.shaped;rw[PyData.canLay0.eq_4,h,PyData.depth.eq_7];rfl
theorem sJ{x y:Str}:PyData.eqv (.str x) (.str y)=(x==y):=PyData.eqv.eq_6 x y
theorem y3{M:ab}{x:Str}:nM M (.d (.str x))=some (.str x):=by show fU M 30 (.str x)=_;unfold fU;rfl
theorem y4{M:ab}{x y:Str}(hx:PyData.strOk x=true)(hy:PyData.strOk y=true):bM .eq (.d (.str x)) (.d (.str y)) M=.ok (x==y) M:=by
 unfold bM;simp only[y3,nF hx,nF hy,and_self,gY,sJ]
theorem y6{M:ab}{x y:Str}(hx:PyData.strOk x=true)(hy:PyData.strOk y=true):bM .ne (.d (.str x)) (.d (.str y)) M=.ok (!(x==y)) M:=by
 unfold bM;simp only[y3,nF hx,nF hy,and_self,gY,sJ]
section
variable {G:bf} {b:List S} {tg:List Nat} {ρ:En} {M:ab} {nx:En->ab->Prop} {rt:W->ab->Prop} {bk ct:En->ab->Prop}
theorem y8{lo:Int}{n:Nat}(I:Nat->En->ab->Prop)(h0:I 0 ρ M)(hs:∀i ρ M,i<n->I i ρ M->HP (bJ tg (.int (lo+i)) ρ) λρ=>fv G b ρ M (I (i+1)) rt nx (I (i+1)))(he:∀ρ M,I n ρ M->nx ρ M):eh (cU (λρ M=>bX G b ρ M) (.gZ lo n) tg n 0 ρ M) nx rt bk ct:=by
 have bu:((List.range n).map λi=>D.int (lo+(i:Nat))).length=n:=by simp
 refine nC (ds:=(List.range n).map λi=>D.int (lo+(i:Nat))) I (λi ρ M _ hi=>?_) (λi ρ M d h e=>?_) (λρ M h=>he ρ M (by rw[bu]at h;exact h)) n 0 ρ M h0 (by rw[bu];omega)
 ·rw[bu]at hi;show some (if i<n then some (D.int (lo+i)) else none)=_;by_cases q:i<n
  ·rw[aG q];simp[q]
  ·rw[aR q,zR (by rw[bu];omega)]
 ·have hi:i<n:=by have:=(eU.mp e).1;rw[bu]at this;exact this
  have:d=.int (lo+i):=by rw[dP,List.getElem?_range hi]at e;exact(cx e).symm
  subst this;have q:=hs i ρ M hi h
  cases e2:bJ tg (.int (lo+i)) ρ with
  | none=>rw[e2]at q;exact q.elim
  | some dB=>rw[e2]at q;exact⟨dB,rfl,by rw[uU];exact q⟩
theorem R1{n:Nat}{ds:List D}(I:Nat->En->ab->Prop)(hM:∀i ρ M,I i ρ M->M[n]?=some (.lst ds))(h0:I 0 ρ M)(hs:∀i ρ M d,ds[i]?=some d->I i ρ M->HP (bJ tg d ρ) λρ=>fv G b ρ M (I (i+1)) rt nx (I (i+1)))(he:∀ρ M,I ds.length ρ M->nx ρ M):eh (cU (λρ M=>bX G b ρ M) (.at n) tg (bZ M (.at n)) 0 ρ M) nx rt bk ct:=by
 rw[Iv (hM 0 ρ M h0)]
 exact nC (ds:=ds) I (λi ρ M h _=>by unfold itemAt;simp only[hM i ρ M h]) (λi ρ M d h e=>by
  have q:=hs i ρ M d e h
  cases e2:bJ tg d ρ with
  | none=>rw[e2]at q;exact q.elim
  | some dB=>rw[e2]at q;exact⟨dB,rfl,by rw[uU];exact q⟩) he ds.length 0 ρ M h0 ∅
end
theorem k9:∀(tg:List Nat)(ds:List D)(ρ:En)(i:Nat)(o:Option D),i∉tg->cN tg ds (ρ.set i o)=(cN tg ds ρ).map (·.set i o)
 | [],[],_,_,_,_=>rfl
 | [],_::_,_,_,_,_=>rfl
 | _::_,[],_,_,_,_=>rfl
 | j::tg,d::ds,ρ,i,o,h=>by
  have h1:i≠j:=λz=>h (by rw[z];exact cD);show cN tg ds ((ρ.set i o).set j (some d))=_;rw[List.set_comm _ _ h1,k9 tg ds _ i o λz=>h (du _ z)];rfl
theorem fg:∀(tg:List Nat)(ds es:List D)(ρ dB:En),tg.Nodup->cN tg ds ρ=some dB->cN tg es dB=cN tg es ρ
 | [],[],[],_,_,_,e=>by cases e;rfl
 | [],[],_::_,_,_,_,e=>by cases e;rfl
 | [],_::_,_,_,_,_,e=>by cases e
 | _::_,[],_,_,_,_,e=>by cases e
 | j::tg,d::ds,[],ρ,dB,n,e=>rfl
 | j::tg,d::ds,f::es,ρ,dB,n,e=>by
  have n1:=vh.mp n;have e:cN tg ds (ρ.set j (some d))=some dB:=e;show cN tg es (dB.set j (some f))=cN tg es (ρ.set j (some f));have e2:=k9 tg ds (ρ.set j (some d)) j (some f) n1.1;rw[e,List.set_set]at e2;exact fg tg ds es _ _ n1.2 e2
theorem pw{tg:List Nat}{d e:D}{ρ dB:En}(n:tg.Nodup)(h:bJ tg d ρ=some dB):bJ tg e dB=bJ tg e ρ:=by
 match tg,n,h with
 | [i],_,h =>
  have h:some (ρ.set i (some d))=some dB:=h;cases h;show some ((ρ.set i (some d)).set i (some e))=some (ρ.set i (some e));rw[List.set_set]
 | [],_,h =>
  cases d<;>first | cases h | skip
  cases e<;>first | rfl | skip
  exact fg [] _ _ _ _ List.nodup_nil h
 | i::j::tg,n,h =>
  cases d<;>first | cases h | skip
  cases e<;>first | rfl | skip
  exact fg (i::j::tg) _ _ _ _ n h
end
section
variable {ee:xT->ab->Prop} {G:bf} {cond:Option dv} {elt:C} {tg:List Nat} {ρ:En} {M:ab} {P:W->ab->Prop}
theorem k_{it:It}{ds:List D}(I:Nat->ab->List D->Prop)(n:tg.Nodup)(m9:∀i M aB,I i M aB->i<=ds.length->itemAt M i it=some ds[i]?)(h0:I 0 M [])(hs:∀i M aB d,ds[i]?=some d->I i M aB->aB.length<sizeLine/\HP (bJ tg d ρ) λτ=>kZ G cond τ M λr M=>if r=true then wE G elt τ M λw M=>cz (own w M) λx M=>I (i+1) M (aB++[x]) else I (i+1) M aB)(he:∀M aB,I ds.length M aB->P (.lv aB) M){k:Nat}(hk:k=ds.length):@aK ⟨ee⟩ _ (a8 (λτ M=>bq G cond τ M) (λτ M=>(ev G elt τ M).bind own) it tg k 0 ρ M []) P:=by
 subst hk;refine nD (er:=⟨ee⟩) (ds:=ds) (λi τ M aB=>I i M aB/\(τ=ρ\/∃d,bJ tg d ρ=some τ)) (λi τ M aB h hi=>m9 i M aB h.1 hi) (λi τ M aB d h e=>?_) (λτ M aB h=>he M aB h.1) ds.length 0 ρ M [] ⟨h0,.inl rfl⟩ ∅;obtain⟨q1,q2⟩:=hs i M aB d e h.1
 have hb:bJ tg d τ=bJ tg d ρ:=by
  rcases h.2 with z | ⟨d',z⟩
  ·rw[z]
  ·exact pw n z
 refine⟨q1,?_⟩
 cases e2:bJ tg d ρ with
 | none=>rw[e2]at q2;exact q2.elim
 | some Em =>
  rw[e2]at q2;refine⟨Em,by rw[hb,e2],?_⟩;have q2:kZ G cond Em M (λr M=>if r=true then wE G elt Em M λw M=>cz (own w M) λx M=>I (i+1) M (aB++[x]) else I (i+1) M aB):=q2;rw[<- w_cond]at q2;refine q2.imp λr M1 q3=>?_
  cases r with
  | true =>
   rw[aG rfl]at q3⊢;rw[pv];rw[<- pv]at q3⊢;exact q3.imp λx M2 q4=>⟨q4,.inr ⟨d,e2⟩⟩
  | false =>
   rw[aR (by simp)]at q3⊢;exact⟨q3,.inr ⟨d,e2⟩⟩
theorem Eo{it:It}{ds:List D}(f:D->Option D)(n:tg.Nodup)(m9:∀M',Ex M M'->∀i,i<=ds.length->itemAt M' i it=some ds[i]?)(hl:ds.length<=sizeLine)(hs:∀(i:Nat) M' d,ds[i]?=some d->Ex M M'->HP (bJ tg d ρ) λτ=>kZ G cond τ M' λr M1=>if r=true then wE G elt τ M1 λw M1=>cz (own w M1) λx M1=>f d=some x/\Ex M M1 else f d=none/\Ex M M1)(he:∀M',Ex M M'->P (.lv (ds.filterMap f)) M'){k:Nat}(hk:k=ds.length):@aK ⟨ee⟩ _ (a8 (λτ M=>bq G cond τ M) (λτ M=>(ev G elt τ M).bind own) it tg k 0 ρ M []) P:=by
 refine k_ (ee:=ee) (ds:=ds) (λi M' aB=>Ex M M'/\aB=(ds.take i).filterMap f) n (λi M' aB h hi=>m9 M' h.1 i hi) ⟨Ex.refl M,rfl⟩ ?_ (λM' aB h=>?_) hk
 ·rintro i M' aB d hd ⟨h1,rfl⟩;have hi:=(eU.mp hd).1;refine⟨?_,?_⟩
  ·have:=List.length_filterMap_le f (ds.take i);rw[jS]at this;omega
  ·have q:=hs i M' d hd h1
   have e:∀o,f d=o->(ds.take (i+1)).filterMap f=(ds.take i).filterMap f++o.toList:=λo ho=>by
    rw[c_ hd,List.filterMap_append];cases o<;>simp[tw,ho]
   cases e2:bJ tg d ρ with
   | none=>rw[e2]at q;exact q.elim
   | some Em =>
    rw[e2]at q;have q:kZ G cond Em M' (λr M1=>if r=true then wE G elt Em M1 λw M1=>cz (own w M1) λx M1=>f d=some x/\Ex M M1 else f d=none/\Ex M M1):=q;show kZ G cond Em M' (λr M1=>if r=true then wE G elt Em M1 λw M1=>cz (own w M1) λx M1=>Ex M M1/\(ds.take i).filterMap f++[x]=(ds.take (i+1)).filterMap f else Ex M M1/\(ds.take i).filterMap f=(ds.take (i+1)).filterMap f);rw[<- w_cond]at q⊢;refine q.imp λr M1 q3=>?_
    cases r with
    | true =>
     rw[aG rfl]at q3⊢;rw[<- pv]at q3⊢;exact q3.imp λx M2 q4=>⟨q4.2,by rw[e _ q4.1];rfl⟩
    | false =>
     rw[aR (by simp)]at q3⊢;exact⟨q3.2,by rw[e _ q3.1];simp⟩
 ·obtain⟨h1,rfl⟩:=h;rw[mD];exact he M' h1
theorem px{M:ab}{ds:List D}:∀M',Ex M M'->∀i,i<=ds.length->itemAt M' i (.items ds)=some ds[i]?:=λ_ _ _ _=>rfl
theorem Ep{M:ab}{n:Nat}{ds:List D}(h:M[n]?=some (.lst ds)):∀M',Ex M M'->∀i,i<=ds.length->itemAt M' i (.at n)=some ds[i]?:=λM' e i _=>by unfold itemAt;simp only[Ex.get e h]
theorem Iw{M:ab}{lo:Int}{n:Nat}:∀M',Ex M M'->∀i,i<=((List.range n).map λi=>D.int (lo+(i:Nat))).length->itemAt M' i (.gZ lo n)=some ((List.range n).map λi=>D.int (lo+(i:Nat)))[i]?:=λM' e i hi=>by
 have bu:((List.range n).map λi=>D.int (lo+(i:Nat))).length=n:=by simp
 rw[bu]at hi;show some (if i<n then some (D.int (lo+i)) else none)=_;by_cases q:i<n
 ·rw[aG q];simp[q]
 ·rw[aR q,zR (by rw[bu];omega)]
theorem Es{lo:Int}{n:Nat}(I:Nat->ab->List D->Prop)(nd:tg.Nodup)(h0:I 0 M [])(hs:∀i M aB,i<n->I i M aB->aB.length<sizeLine/\HP (bJ tg (.int (lo+i)) ρ) λτ=>kZ G cond τ M λr M=>if r=true then wE G elt τ M λw M=>cz (own w M) λx M=>I (i+1) M (aB++[x]) else I (i+1) M aB)(he:∀M aB,I n M aB->P (.lv aB) M):@aK ⟨ee⟩ _ (a8 (λτ M=>bq G cond τ M) (λτ M=>(ev G elt τ M).bind own) (.gZ lo n) tg (bZ M (.gZ lo n)) 0 ρ M []) P:=by
 have bu:((List.range n).map λi=>D.int (lo+(i:Nat))).length=n:=by simp
 refine k_ (ee:=ee) (ds:=(List.range n).map λi=>D.int (lo+(i:Nat))) I nd (λi M' aB _ hi=>Iw M' (Ex.refl M') i hi) h0 (λi M' aB d e h=>?_) (λM' aB h=>he M' aB (by rw[bu]at h;exact h)) (by rw[bu];rfl);have hi:i<n:=by have:=(eU.mp e).1;rw[bu]at this;exact this
 have:d=.int (lo+i):=by rw[dP,List.getElem?_range hi]at e;exact(cx e).symm
 subst this;exact hs i M' aB hi h
end
end Ev
end
local macro_rules
  | `(tactic| nofun) => `(tactic| conv => whnf)
section
namespace Ev
open L2
open PySem PySem.Spec PyProof.Rows
end Ev
end
section
namespace Ev
open PySem PyProof.Rows
abbrev ch(c:Nat):Str:=⟨#[c]⟩
theorem iC{a b:Str}(h:a.cps.toList=b.cps.toList):a=b:=PySem.Str.ext' (Array.ext' h)
theorem fh(a b:Str):(a++b).cps.toList=a.cps.toList++b.cps.toList:=cps_toList_append a b
theorem fZ{c:Nat}:∀{l:List Nat},0<=cnt c l
 | []=>by rw[cnt_nil];exact Int.le_refl _
 | n::l=>by rw[cnt_cons];have:=fZ (c:=c) (l:=l);split<;>omega
theorem pA{c:Nat}:∀{l:List Nat},cnt c l=0->c∉l
 | [],_=>by simp
 | n::l,h=>by
  rw[cnt_cons]at h;have:=fZ (c:=c) (l:=l);by_cases e:n=c
  ·rw[aG e]at h;omega
  ·rw[aR e]at h
   exact λm=>by
    rcases bF.mp m with z | z
    ·exact e z.symm
    ·exact pA ∅ z
theorem y9{ps:List Str}{c:Nat}(h:(ps.map λt=>cnt c t.cps.toList).sum=0):∀t∈ps,c∉t.cps.toList:=by
 induction ps with
 | nil=>intro t m;cases m
 | cons p ps ih =>
  rw[cA,vq]at h;have hp:=fZ (c:=c) (l:=p.cps.toList)
  have hs:0<=(ps.map λt=>cnt c t.cps.toList).sum:=by
   clear ih h
   induction ps with
   | nil=>exact Int.le_refl _
   | cons q qs ih=>rw[cA,vq];have:=fZ (c:=c) (l:=q.cps.toList);omega
  intro t m;rcases bF.mp m with z | z
  ·rw[z];exact pA ∅
  ·exact ih ∅ t z
theorem kind_le{x:Str}{c:Nat}(h:c<256):decide (Builtin.Str.strKind x<Builtin.Str.strKind (ch c))=false:=by
 have e:Builtin.Str.strKind (ch c)=1:=by
  show(if (#[c]:Array Nat).all (· < 256) then 1 else _)=1;rw[aG (by simp[h])]
 rw[e];refine df ?_;unfold Builtin.Str.strKind;split
 ·omega
 ·split<;>omega
theorem split_len{x:Str}{c:Nat}(h:c<256):((Txt.split x (ch c)).length:Int)=cnt c x.cps.toList+1:=by
 have hc:=count_cnt x c;unfold Txt.count at hc;unfold Txt.split;rw[kind_le h,Bool.or_false];by_cases h1:decide (x.length<(ch c).length)=true
 ·rw[aG h1];have hl:x.length=0:=by have:=of_decide_eq_true h1;have e:(ch c).length=1:=rfl;omega
  have hx:x.cps.toList=[]:=by rw[<- EI,tB];exact hl
  rw[hx,cnt_nil];rfl
 ·rw[aR h1];by_cases h2:(Builtin.Str.occurrences x (ch c) 0 x.length (x.length+1)).isEmpty=true
  ·rw[aG h2];rw[tK.mp h2]at hc;rw[<- hc];rfl
  ·rw[aR h2,length_partsBetween,<- hc];rfl
theorem y_{x:Str}{c:Nat}(h:c<256):Txt.split x (ch c)≠[]:=λe=>by
 have:=split_len (x:=x) h;rw[e]at this;have:=fZ (c:=c) (l:=x.cps.toList);simp at *;omega
theorem qH{x:Str}{c:Nat}(h:c<256):∀t∈Txt.split x (ch c),c∉t.cps.toList:=by
 refine y9 ?_;have h1:=cnt_join_sum (ch c) c (Txt.split x (ch c));rw[StrLaws.join_split]at h1;have h2:=split_len (x:=x) h;have h3:cnt c (ch c).cps.toList=1:=by show cnt c [c]=1;rw[cnt_cons,cnt_nil,aG rfl];rfl
 rw[h3]at h1;have:=fZ (c:=c) (l:=x.cps.toList);omega
theorem f_{c:Nat}:∀{a b r s:List Nat},c∉a->c∉b->a++c::r=b++c::s->a=b/\r=s
 | [],[],_,_,_,_,e=>⟨rfl,(vt e).2⟩
 | [],_::_,_,_,_,h,e=>absurd (by rw[(vt e).1];exact cD) h
 | _::_,[],_,_,h,_,e=>absurd (by rw[<- (vt e).1];exact cD) h
 | x::a,y::b,r,s,h1,h2,e=>by
  obtain⟨e1,e2⟩:=vt e;obtain⟨e3,e4⟩:=f_ (λz=>h1 (du _ z)) (λz=>h2 (du _ z)) e2;exact⟨by rw[e1,e3],e4⟩
theorem join_list{c:Nat}{x y:Str}{r:List Str}:(Str.join (ch c) (x::y::r)).cps.toList=x.cps.toList++c::(Str.join (ch c) (y::r)).cps.toList:=by
 rw[join_cons_cons,fh,fh,pR];rfl
theorem pB{c:Nat}:∀{ps ws:List Str},ps≠[]->ws≠[]->(∀t∈ps,c∉t.cps.toList)->(∀t∈ws,c∉t.cps.toList)->Str.join (ch c) ps=Str.join (ch c) ws->ps=ws
 | [],_,h,_,_,_,_=>absurd rfl h
 | _::_,[],_,h,_,_,_=>absurd rfl h
 | [p],[w],_,_,_,_,e=>by rw[join_one,join_one]at e;rw[e]
 | [p],w::w2::ws,_,_,hp,hw,e=>by
  rw[join_one]at e;refine absurd ?_ (hp p cD);rw[e,join_list];exact gA _ cD
 | p::p2::ps,[w],_,_,hp,hw,e=>by
  rw[join_one]at e;refine absurd ?_ (hw w cD);rw[<- e,join_list];exact gA _ cD
 | p::p2::ps,w::w2::ws,_,_,hp,hw,e=>by
  have e:(Str.join (ch c) (p::p2::ps)).cps.toList=(Str.join (ch c) (w::w2::ws)).cps.toList:=jt (λs:Str=>s.cps.toList) e;rw[join_list,join_list]at e;obtain⟨e1,e2⟩:=f_ (hp p cD) (hw w cD) e;rw[iC e1,pB (zZ _ _) (zZ _ _) (λt m=>hp t (du _ m)) (λt m=>hw t (du _ m)) (iC e2)]
theorem la{c:Nat}(h:c<256){ws:List Str}(hn:ws≠[])(hf:∀t∈ws,c∉t.cps.toList):Txt.split (Str.join (ch c) ws) (ch c)=ws :=
 pB (y_ h) hn (qH h) hf (StrLaws.join_split _ _)
theorem uV{c:Nat}{a b:Str}(ha:c∉a.cps.toList)(hb:c∉b.cps.toList):Txt.partition (a++ch c++b) (ch c)=(a,ch c,b):=by
 have hs:=StrLaws.partition_sum (a++ch c++b) (ch c);have R3:=StrLaws.found_one (a++ch c++b) c;unfold Txt.partition at hs⊢
 cases e:Builtin.Str.occurrences (a++ch c++b) (ch c) 0 (a++ch c++b).length 1 with
 | nil =>
  rw[e]at R3;have:decide (c∈(a++ch c++b).cps.toList)=true:=gX (by rw[fh,fh];exact zS _ (gA _ cD));rw[this]at R3;cases R3
 | cons i tl =>
  rw[e]at hs;dsimp only at hs⊢;have hs:=jt (λs:Str=>s.cps.toList) hs;simp only[fh,pR]at hs;have F8:∀l:List Nat,(ch c).cps.toList++l=c::l:=λ_=>rfl;rw[F8,F8]at hs
  have two:∀{p q r s:List Nat},c∉r->c∉s->p++c::q=r++c::s->p=r/\q=s:=by
   intro p q r s hr hs e
   have hp:c∉p:=by
    intro hp;obtain⟨p1,p2,rfl⟩:=List.append_of_mem hp
    have:∃p3 p4,p1++c::p2=p3++c::p4/\c∉p3:=by
     clear e hp
     induction p1 with
     | nil=>exact⟨[],p2,rfl,by simp⟩
     | cons z p1 ih =>
      by_cases hz:z=c
      ·exact⟨[],p1++c::p2,by rw[hz];rfl,by simp⟩
      ·obtain⟨p3,p4,e,n⟩:=ih;refine⟨z::p3,p4,by rw[List.cons_append,e];rfl,λm=>?_⟩;rcases bF.mp m with q | q
       ·exact hz q.symm
       ·exact n q
    obtain⟨p3,p4,e2,n⟩:=this;rw[e2,pR,List.cons_append]at e;obtain⟨_,e4⟩:=f_ n hr e;exact hs (by rw[<- e4];exact gA _ cD)
   exact f_ hp hr e
  obtain⟨h1,h2⟩:=two ha hb hs;rw[iC h1,iC h2]
abbrev cQ(n:Nat):Str:=Str.ofString (toString ((n:Nat):Int))
theorem lb(n:Nat):(cQ n).cps.toList=(Nat.toDigits 10 n).map Char.toNat:=PySem.W.KIN.signs_num n
theorem cR{n k:Nat}(hk:k≠45/\(k<48\/57<k)):k∉(cQ n).cps.toList:=int_text_free' k hk n
theorem nG:∀d<10,48<=(Nat.digitChar d).toNat/\(Nat.digitChar d).toNat<=57/\((Nat.digitChar d).toNat=48->d=0):=by decide
theorem nH{n:Nat}:∀c∈(cQ n).cps.toList,48<=c/\c<=57:=by
 rw[lb]
 induction n using Nat.strongRecOn with
 | ind n ih =>
  intro c hc;by_cases h:n<10
  ·rw[Nat.toDigits_of_lt_base h]at hc;obtain rfl:=jr.mp hc;exact⟨(nG n h).1,(nG n h).2.1⟩
  ·rw[Nat.toDigits_of_base_le (by decide) ∅,lG]at hc;rcases gW.mp hc with z | z
   ·exact ih (n / 10) ∅ c z
   ·obtain rfl:=jr.mp z;have:=nG (n % 10) ∅;exact⟨this.1,this.2.1⟩
theorem pC:∀n:Nat,∃c r,(cQ n).cps.toList=c::r/\(c=48->n=0/\r=[]):=by
 intro n;rw[lb]
 induction n using Nat.strongRecOn with
 | ind n ih =>
  by_cases h:n<10
  ·rw[Nat.toDigits_of_lt_base h];exact⟨_,[],rfl,λe=>⟨(nG n h).2.2 e,rfl⟩⟩
  ·rw[Nat.toDigits_of_base_le (by decide) ∅,lG];obtain⟨c,r,e,k⟩:=ih (n / 10) ∅;rw[e];exact⟨c,_,rfl,λe=>by have:=(k e).1;omega⟩
theorem ba{n k:Nat}(h:n<10 ^ k)(hk:0<k):(cQ n).length<=k:=by
 have:(cQ n).length=(Nat.toDigits 10 n).length:=by
  show(cQ n).cps.size=_;rw[<- tB,lb,aV]
 rw[this];exact(Nat.length_toDigits_le_iff (by decide) hk).mpr h
theorem B6{n:Nat}:1<=(cQ n).length:=by
 obtain⟨c,r,e,_⟩:=pC n;show 1<=(cQ n).cps.size;rw[<- tB,e];simp
theorem B7{n:Nat}(h:n<10 ^ 10):intText? (cQ n)=some (n:Int):=PySem.W.KIN.num_reads ∅ ∅
end Ev
end
section
namespace Ev
open PySem
noncomputable def Et:List S:=[.ret (.dE [(.bi (.iT .str) [0]),(.cmp .eq (.bi .len [0]) (.kn 1)),(.chain .le .le (.a_ (.str "a")) 0 (.a_ (.str "z")))])]
def Iy(sL:Nat)(N8:Nat)(R4:Nat)(za:Nat):List S:=[.iff (.val (.cmp .eq (.ks 0 0) (.a_ (.str "come")))) [.ret (.call sL [(.lst [(.a_ (.str "come")),(.call N8 [(.ks 0 1),(.ks 0 2)])])])] [],.iff (.val (.cmp .eq (.ks 0 0) (.a_ (.str "throw")))) [.ret (.call sL [(.bin .add (.tup [(.a_ (.str "throw"))]) (.ks 0 1))])] [],.iff (.val (.cmp .eq (.ks 0 0) (.a_ (.str "fall")))) [.i_ 1 (.comp .seq [(.ks 0 3)] [1,2] none (.call R4 [1,(.call za [(.comp .seq [2] [1,2] none (.call N8 [1,2]) [none,none,none])])]) [none,none,none]),.ret (.call sL [(.bin .add (.lst [(.a_ (.str "fall")),(.call za [(.ks 0 1)]),(.call za [(.ks 0 2)])]) 1)])] [],.ret (.call sL [0])]
def Eu:List S:=[.iff (.eF [(.neg (.val (.chain .le .le (.kn 1) (.bi .len [0]) 1))),(.neg (.val (.bi .all1 [(.comp .seq [0] [1] none (.cmp .MK 1 (.qj "FIGURES" "0123456789")) [none,none])])))]) [.never] [],.iff (.dE [(.val (.cmp .eq (.ks 0 0) (.a_ (.str "0")))),(.val (.cmp .ne 0 (.a_ (.str "0"))))]) [.never] [],.ret (.bi .jB [0])]
noncomputable def Ew(fN:Nat):List S:=[.ret (.call fN [0,(.uy "MOST_FIGURES" 9)])]
noncomputable def Ey(fN:Nat):List S:=[.ret (.call fN [0,(.uy "MOST_LONG_FIGURES" 10)])]
def Ez(pD:Nat):List S:=[.iff (.neg (.val (.call pD [0]))) [.never] [],.ret 0]
noncomputable def N_(tv:List (Addr×Nat)):List S:=[.asg [4] (.lN true 0 1),.ret (.tup [(.cM 2 tv [(.ks 4 0)]),(.cM 3 tv [(.ks 4 2)])])]
noncomputable def Oa(lg:Nat)(zb:Addr)(Ob:Addr):List S:=[.ret (.call lg [0,(.a_ (.str ".")),(.oK "number_in" zb),(.oK "long_in" Ob)])]
def Oc(Od:Nat):List S:=[.ret (.bi .tuple1 [(.comp .seq [(.lN false 0 (.a_ (.str ",")))] [1] none (.call Od [1]) [none,none])])]
def Oe(R5:Nat):List S:=[.ret (.bi .tuple1 [(.comp .seq [(.lN false 0 (.a_ (.str ",")))] [1] none (.call R5 [1]) [none,none])])]
noncomputable def Of(lg:Nat)(zb:Addr)(R6:Addr):List S:=[.ret (.call lg [0,(.a_ (.str ":")),(.oK "number_in" zb),(.oK "letters_in" R6)])]
def Iz(tv:List (Addr×Nat)):List S:=[.asg [3] (.lst []),.gk [4] .rng2 [(.kn 1),(.bi .len [0])] [.asg [5] (.ite (.val (.cmp .le 4 (.bi .len [1]))) (.sub 1 (.bin .sub 4 (.kn 1))) 2),.iff (.val (.cmp .isN 5 (.a_ .br))) [.never] [],.jE false (.me .append 3 [(.cM 5 tv [(.sub 0 4)])])],.iff (.val (.cmp .le (.bi .len [0]) (.bi .len [1]))) [.never] [],.ret 3]
def IA(R7:Nat)(tt:lC):List S:=[.asg [1] (.lN false 0 (.a_ (.str " "))),.asg [2] (.ks 1 0),.iff (.val (.lO "DEED_WORDS" tt 2)) [.never] [],.asg [3] (.call R7 [1,(.sub (.ib "DEED_WORDS" tt 2) (.kn 0)),(.sub (.ib "DEED_WORDS" tt 2) (.kn 1))]),.iff (.val (.cmp .eq 2 (.a_ (.str "come")))) [.ret (.tup [(.a_ (.str "come")),(.sub (.ks 3 0) (.kn 0)),(.sub (.ks 3 0) (.kn 1))])] [],.iff (.val (.cmp .eq 2 (.a_ (.str "throw")))) [.ret (.tup [(.a_ (.str "throw")),(.bi .tuple1 [3])])] [],.iff (.val (.cmp .eq 2 (.a_ (.str "fall")))) [.ret (.tup [(.a_ (.str "fall")),(.ks 3 0),(.ks 3 1),(.rM 3 (some (.kn 2)) none)])] [],.ret (.bin .add (.tup [2]) (.bi .tuple1 [3]))]
def zc(nI:Nat)(qI:Nat):List S:=[.iff (.val (.cmp .eq (.ks 0 0) (.a_ (.str "come")))) [.ret (.cat (.cat (.cat (.a_ (.str "come ")) (.bi .str1 [(.ks 0 1)])) (.a_ (.str "."))) (.bi .str1 [(.ks 0 2)]))] [],.iff (.val (.cmp .eq (.ks 0 0) (.a_ (.str "throw")))) [.ret (.call nI [(.bin .add (.tup [(.a_ (.str "throw"))]) (.ks 0 1))])] [],.iff (.val (.cmp .ne (.ks 0 0) (.a_ (.str "fall")))) [.ret (.call nI [0])] [],.asg [1] (.lst []),.gk [2,3] .seq [(.ks 0 3)] [.expr (.me .append 1 [(.cat (.cat (.bi .str1 [2]) (.a_ (.str ":"))) (.call qI [(.comp .seq [3] [1,2] none (.cat (.cat (.bi .str1 [1]) (.a_ (.str "."))) (.bi .str1 [2])) [none,none,none])]))])],.ret (.call nI [(.bin .add (.lst [(.a_ (.str "fall")),(.call qI [(.ks 0 1)]),(.call qI [(.ks 0 2)])]) 1)])]
noncomputable def qJ(cG:Nat):List S:=[.asg [1] (.lst [(.call cG [0,(.kn 4)]),(.call cG [0,(.kn 120)]),(.bin .sub (.bin .sub (.bin .pow (.kn 10) (.kn 9)) (.kn 1)) (.call cG [0,(.kn 3)]))]),.ret (.sub 1 (.sub (.lst [(.kn 0),(.kn 0),(.kn 1),(.kn 2)]) (.call cG [0,(.kn 4)])))]
noncomputable def qK(cG:Nat)(cS:Nat):List S:=[.ret (.tup [(.a_ (.str "throw")),(.bi .tuple1 [(.comp .rng1 [(.bin .add (.kn 1) (.call cG [0,(.kn 4)]))] [1] none (.call cS [2]) [none,none,some 0])])])]
noncomputable def qL(cG:Nat)(cS:Nat):List S:=[.asg [1] (.lst []),.gk [2] .rng1 [(.call cG [0,(.kn 4)])] [.i_ 3 (.comp .rng1 [(.bin .add (.kn 1) (.call cG [0,(.kn 3)]))] [1] none (.tup [(.call cS [2]),(.call cS [2])]) [none,none,some 0]),.expr (.me .append 1 [(.tup [(.call cS [0]),(.bi .tuple1 [3])])])],.asg [4] (.bi .tuple1 [(.comp .rng1 [(.bin .add (.kn 1) (.call cG [0,(.kn 4)]))] [1] none (.call cS [2]) [none,none,some 0])]),.asg [5] (.bi .tuple1 [(.comp .rng1 [(.bin .add (.kn 1) (.call cG [0,(.kn 4)]))] [1] none (.call cS [2]) [none,none,some 0])]),.ret (.tup [(.a_ (.str "fall")),4,5,1])]
def qM(cG:Nat)(IB:Nat)(IC:Nat)(cS:Nat):List S:=[.asg [1] (.call cG [0,(.kn 9)]),.iff (.val (.cmp .lt 1 (.kn 2))) [.ret (.ite (.val (.cmp .eq 1 (.kn 1))) (.call IB [0]) (.call IC [0]))] [],.iff (.val (.cmp .eq 1 (.kn 2))) [.ret (.tup [(.a_ (.str "hear")),(.call cS [0]),(.sub (.a_ (.str "abz")) (.call cG [0,(.kn 3)]))])] [],.iff (.val (.cmp .eq 1 (.kn 3))) [.ret (.tup [(.a_ (.str "come")),(.call cS [0]),(.sub (.lst [(.call cS [0]),(.bin .sub (.bin .pow (.kn 10) (.kn 10)) (.kn 1))]) (.bi .jB [(.cmp .eq (.call cG [0,(.kn 6)]) (.kn 0))]))])] [],.iff (.val (.cmp .lt 1 (.kn 6))) [.ret (.tup [(.sub (.lst [(.a_ (.str "own")),(.a_ (.str "keep"))]) (.bin .sub 1 (.kn 4))),(.call cS [0])])] [],.ret (.tup [(.sub (.lst [(.a_ (.str "note")),(.a_ (.str "tell")),(.a_ (.str "tell"))]) (.bin .sub 1 (.kn 6))),(.call cS [0]),(.call cS [0])])]
noncomputable def gy(Og:Nat):List S:=[.iff (.val (.u4 1)) [.asg [2] (.ite (.val (.bi (.iT .tuple) [1])) (.bi (.iT .tuple) [0]) (.bi (.iT .list) [0])),.iff (.eF [(.neg (.val 2)),(.val (.cmp .ne (.bi .len [0]) (.bi .len [1])))]) [.ret (.a_ (.bl false))] [],.ret (.bi .all1 [(.comp .zip [0,1] [1,2] none (.call Og [1,2]) [none,none,none])])] [],.iff (.val (.bi (.iT .str) [1])) [.ret (.dE [(.bi (.iT .str) [0]),(.cmp .eq 0 1)])] [],.ret (.dE [(.bi (.iT .int) [0]),(.neg (.bi (.iT .bool) [0])),(.cmp .eq 0 1)])]
end Ev
end
section
namespace Ev
open L2
open PySem PySem.Spec PyProof.Rows
inductive Wp where
 | num (n:Nat) | jF (x:Str)
def Wp.d:Wp->D
 | .num n=>.int (n:Nat)
 | .jF x=>.str x
def Wp.t:Wp->Str
 | .num n=>cQ n
 | .jF x=>x
def Wp.ok:Wp->Prop
 | .num n=>n<10 ^ 10
 | .jF _=>True
theorem qN{n:Nat}(h:n<10 ^ 10):((n:Nat):Int).natAbs.log2<1920:=by
 rw[Int.natAbs_natCast];by_cases z:n=0
 ·subst z;decide
 ·exact(Nat.log2_lt z).mpr (iI h (by decide))
theorem sM{M:ab}{w:Wp}(h:w.ok):ic .str1 [.d w.d] M=.ok (.d (.str w.t)) M:=by
 cases w with
 | num n=>exact aG (qN h)
 | jF x=>rfl
theorem strs_map:∀xs:List Str,kj (xs.map D.str)=some xs
 | []=>rfl
 | x::xs=>by
  show(kj (xs.map D.str)).map (x::·)=_;rw[strs_map xs];rfl
theorem my(k:Nat):∀(xs:List Str)(a:Nat),xs.foldl (λa b=>a+b.length+k) a=a+(xs.map (·.length)).sum+xs.length*k
 | [],a=>by simp
 | x::xs,a=>by
  rw[List.foldl_cons,my k xs,cA,vq,iH,Nat.succ_mul];omega
theorem zd(cC:Str)(xs:List Str):jl cC xs=Str.join cC xs:=by
 rcases xs with _|⟨x,_|⟨y,xs⟩⟩
 ·exact EM cC []
 ·rfl
 ·exact EM cC (x::y::xs)
theorem lh(cC:Str)(xs:List Str):(Str.join cC xs).length<=(xs.map (·.length)).sum+xs.length*cC.length:=by
 rw[<- EM,size_glued];have:(xs.length-1)*cC.length<=xs.length*cC.length:=Nat.mul_le_mul_right _ (Nat.sub_le _ _);omega
theorem ID{cC:Str}{xs:List Str}{M:ab}(h:(xs.map (·.length)).sum+xs.length*cC.length<=1000):km cC (.lv (xs.map D.str)) M=.ok (.d (.str (Str.join cC xs))) M:=by
 unfold km;simp only[strs_map,zd];refine aG ⟨?_,af (d7 (lh cC xs) h)⟩;unfold Builtin.Str.tooLong;rw[List.foldl_toArray,my,Nat.zero_add];exact df (Nat.not_lt.mpr (af h))
noncomputable def Oh(M:ab)(d:D)(ps:List D):Prop:=d=.tup ps\/∃n,d=.aX n/\M[n]?=some (.lst ps)
def R8(cC:Str):List S:=[.ret (.qi cC (.comp .seq [0] [1] none (.bi .str1 [1]) [none,none]))]
def uW(cC:Str)(F:Fn):Prop:=∀(M:ab)(d:D)(ws:List Wp),Oh M d (ws.map Wp.d)->(∀w∈ws,w.ok)->ws.length<=1000->((ws.map Wp.t).map (·.length)).sum+ws.length*cC.length<=1000->aK (F [d] M) λr M'=>r=.d (.str (Str.join cC (ws.map Wp.t)))/\Ex M M'
theorem B8{α:Type}{f:α->D}(l:List α):l.filterMap (λx=>some (f x))=l.map f:=by
 induction l with
 | nil=>rfl
 | cons x l ih=>rw[tw,ih];rfl
noncomputable def R9:D->Option D
 | .int i=>some (.str (Str.ofString (toString i)))
 | .str x=>some (.str x)
 | _=>none
theorem EA(w:Wp):R9 w.d=some (.str w.t):=by cases w<;>rfl
theorem sN:∀ws:List Wp,(ws.map Wp.d).filterMap R9=(ws.map Wp.t).map D.str
 | []=>rfl
 | w::ws=>by
  rw[cA,tw,EA];dsimp only;rw[sN ws];rfl
theorem Pl{G:bf}{cC:Str}:uW cC (aq G 2 (R8 cC)):=by
  intro M d ws hd bc hl hz;rw[b_];show fv G (R8 cC) [some d,none] M _ _ _ _;unfold R8
  have main : ∀ (it : It) (k : Nat), k = (ws.map Wp.d).length -> (∀ M', Ex M M' -> ∀ i, i <= (ws.map Wp.d).length -> itemAt M' i it = some (ws.map Wp.d)[i]?) ->
      aK (a8 (λτ M=>bq G none τ M) (λτ M=>(ev G (.bi .str1 [(.jC 1)]) τ M).bind own) it [1] k 0 [none,none] M []) λx M1=>cz (km cC x M1) λr M2=>r=.d (.str (Str.join cC (ws.map Wp.t)))/\Ex M M2:=λit k hk m9=>by
    refine Eo (ds:=ws.map Wp.d) R9 (by decide) m9 (af (by rw[aV];exact hl)) ?_ ?_ hk
    · intro i M' d hd g;obtain⟨w,hw,rfl⟩:=dD.mp (eL hd);nofun;rw[sM (bc w hw)];nofun;exact⟨EA w,g⟩
    · intro M' g;rw[sN];nofun;rw[ID (by rw[aV];exact hz)];exact⟨rfl,g⟩
  rcases hd with rfl | ⟨n,rfl,hn⟩
  · nofun;exact main (.items (ws.map Wp.d)) (bZ M (.items (ws.map Wp.d))) rfl px
  · nofun;rw[qG hn];nofun;exact main (.at n) (bZ M (.at n)) (Iv hn) (Ep hn)
theorem IE{lit:Str}{w:Wp}(h:w.ok)(hl:w.t.length+lit.length<=1000):A_ lit (.d w.d)=some w.t:=by
 have e:Jj (.d w.d)=some w.t:=by
  cases w with
  | num n=>exact aG (qN h)
  | jF x=>rfl
 unfold A_;rw[e];refine aG ?_;rw[Str.empty_append];exact⟨af ∅,af (by rw[gU];omega),af ∅⟩
theorem IF{lit p:Str}{w:Wp}{M:ab}(h:w.ok)(hl:p.length+lit.length+w.t.length<=1000):D0 lit p (.d w.d) M=.ok (.d (.str (p++lit++w.t))) M:=by
 have e:Jj (.d w.d)=some w.t:=by
  cases w with
  | num n=>exact aG (qN h)
  | jF x=>rfl
 unfold D0;rw[e];dsimp only;rw[Str.empty_append];exact aG ⟨af (by rw[gU,gU];omega),af ∅⟩
def TK(lit:Str):List S:=[.ret (.uz lit 0 1)]
def Oi(lit:Str)(F:Fn):Prop:=∀(M:ab)(a b:Wp),a.ok->b.ok->a.t.length+lit.length+b.t.length<=1000->aK (F [a.d,b.d] M) λr M'=>r=.d (.str (a.t++lit++b.t))/\M'=M
theorem TL{G:bf}{lit:Str}:Oi lit (aq G 2 (TK lit)):=by
 intro M a b ha hb hl;rw[b_];show fv G (TK lit) [some a.d,some b.d] M _ _ _ _;nofun;rw[IE ha ∅];nofun;rw[IF hb hl];exact⟨rfl,rfl⟩
def fj(x:Str):Prop:=∀c∈x.cps.toList,c<128
theorem fj.so{x:Str}(h:fj x):PyData.strOk x=true:=by
 unfold PyData.strOk;rw[<- Array.all_toList,jT];exact λc hc=>gX (iI (h c hc) (by decide))
theorem fj.all{x:Str}(h:fj x):(x.cps.all λc=>decide (c<128))=true:=by
 rw[<- Array.all_toList,jT];exact λc hc=>gX (h c hc)
theorem fj.app{a b:Str}(ha:fj a)(hb:fj b):fj (a++b):=λc hc=>by
 rw[fh]at hc;exact(gW.mp hc).elim (ha c) (hb c)
theorem fj.one{c:Nat}(h:c<128):fj (ch c):=λd hd=>by
 have hd:d∈[c]:=hd;rw[jr.mp hd];exact h
theorem fj.join{c:Nat}(h:c<128):∀{xs:List Str},(∀x∈xs,fj x)->fj (Str.join (ch c) xs)
 | [],_=>λc hc=>by cases hc
 | [x],hx=>hx x cD
 | x::y::r,hx=>by
  rw[join_cons_cons];exact((hx x cD).app (fj.one h)).app (fj.join h λz m=>hx z (du _ m))
theorem gQ(n:Nat):fj (cQ n):=λc hc=>by have:=(nH c hc).2;omega
theorem jc{c k:Nat}(h:k≠c):∀{xs:List Str},(∀x∈xs,k∉x.cps.toList)->k∉(Str.join (ch c) xs).cps.toList
 | [],_=>λhc=>by cases hc
 | [x],hx=>hx x cD
 | x::y::r,hx=>by
  rw[join_list];intro m;rcases gW.mp m with z | z
  ·exact hx x cD z
  ·rcases bF.mp z with q | q
   ·exact h q
   ·exact jc h (λz m=>hx z (du _ m)) q
theorem iE{k:Nat}{a b:Str}(ha:k∉a.cps.toList)(hb:k∉b.cps.toList):k∉(a++b).cps.toList:=by
 rw[fh];exact λm=>(gW.mp m).elim ha hb
theorem fO{k c:Nat}(h:k≠c):k∉(ch c).cps.toList:=λm=>h (jr.mp m)
theorem R_:(" " : Str)=ch 32:=rfl
theorem Sa:("," : Str)=ch 44:=rfl
theorem Oj:("." : Str)=ch 46:=rfl
theorem Sb:(":" : Str)=ch 58:=rfl
def u7(F:Fn)(x:Str)(d:D):Prop:=∀M:ab,aK (F [.str x] M) λr M'=>r=.d d/\Ex M M'
theorem ze{M:ab}{x:Str}(h:x.length<=sizeLine):ic .len [.d (.str x)] M=.ok (.d (.int x.length)) M:=by
 unfold ic;exact aG h
theorem zf{M:ab}{s:Str}(h:(s.cps.all λc=>decide (c<128))=true):fF .seq [.d (.str s)] M=.ok (.items (iU s)) M:=by
 unfold fF;exact aG h
theorem B9{s:Str}{d:D}(h:d∈iU s):∃c,d=.str (ch c)/\c∈s.cps.toList:=by
 unfold iU at h;obtain⟨c,hc,rfl⟩:=dD.mp h;exact⟨c,rfl,hc⟩
theorem zg{s:Str}:(iU s).length=s.length:=by unfold iU;rw[aV];rfl
theorem sO:∀l:List D,(∀d∈l,d=.bl true)->oM l=some (l.map λ_=>true)
 | [],_=>rfl
 | d::l,h=>by
  rw[h d cD];show(oM l).map (true::·)=_;rw[sO l λd m=>h d (du _ m)];rfl
theorem sP{M:ab}{l:List D}(h:∀d∈l,d=.bl true):ic .all1 [.lv l] M=.ok (.d (.bl true)) M:=by
 unfold ic bL;simp only[sO l h];rw[List.all_map];have e:∀l:List D,l.all (id∘λ_=>true)=true:=λl=>List.rec rfl (λ_ _ i=>i) l;rw[e l]
theorem IG{c:Nat}(h:48<=c/\c<=57):c∈("0123456789" : Str).cps.toList:=by
 have:("0123456789" : Str).cps.toList=[48,49,50,51,52,53,54,55,56,57]:=⋯;rw[this];simp only[bF,gV,gD];omega
theorem IH{c:Nat}(h:48<=c/\c<=57):(!(Builtin.Str.occurrences ("0123456789" : Str) (ch c) 0 ("0123456789" : Str).length 1).isEmpty)=true:=by rw[StrLaws.found_one];exact gX (IG h)
theorem zh{M:ab}{x:Str}{c:Nat}{r:List Nat}(h:x.cps.toList=c::r)(hl:x.length<=sizeLine):dw (.d (.str x)) (.d (.int 0)) M=.ok (.d (.str (ch c))) M:=by
 have e:L2.oA x.cps.toList 0=some c:=by rw[h];unfold L2.oA L2.zE;simp
 unfold dw;show(if x.length<=sizeLine then _ else _)=_;rw[aG hl];simp only[e]
theorem Ol{a b:Nat}:(ch a==ch b)=(a==b):=by
 by_cases h:a=b
 ·subst h;simp
 ·rw[lE.mpr h];exact lE.mpr λz=>h (by have:=jt (λs:Str=>s.cps.toList) z;simpa using this)
theorem Sd:("0" : Str)=ch 48:=rfl
theorem B_{M:ab}{n:Nat}(h:n<10 ^ 10):ic .jB [.d (.str (cQ n))] M=.ok (.d (.int n)) M:=by
 unfold ic;simp only[B7 h];exact aG (d7 (ba (k:=10) h (by decide)) (by decide))
def Ca(F:Fn):Prop:=∀(M:ab)(n k:Nat),n<10 ^ k->0<k->k<=10->aK (F [.str (cQ n),.int (k:Nat)] M) λr M'=>r=.d (.int n)/\Ex M M'
theorem Se{G:bf}:Ca (aq G 2 Eu):=by
 intro M n k hn hk Th;have Pm:n<10 ^ 10:=eV hn (Nat.pow_le_pow_right (by decide) Th);have hl:=ba hn hk;have hp:=B6 (n:=n);rw[b_];show fv G Eu [some (.str (cQ n)),some (.int (k:Nat))] M _ _ _ _;nofun;rw[ze (af ∅)];nofun;rw[gX (show(1:Int)<=((cQ n).length:Nat) by omega)];nofun;rw[gX (show(((cQ n).length:Nat):Int)<=(k:Nat) by omega)];nofun;rw[zf (gQ n).all];nofun;refine Eo (ds:=iU (cQ n)) (λ_=>some (.bl true)) (by decide) px (af (by rw[zg];omega)) ?_ ?_ rfl
 ·intro i M' d hd g;obtain⟨c,rfl,hc⟩:=B9 (eL hd);nofun;rw[IH (nH c hc)];exact⟨rfl,g⟩
 ·intro M' g;nofun;rw[sP (λd hd=>by rw[B8,dD]at hd;obtain⟨_,_,rfl⟩:=hd;rfl)];nofun;obtain⟨c,r,e,hz⟩:=pC n;rw[zh e (af ∅)];nofun;rw[Sd,y4 (fj.one (Nat.lt_of_le_of_lt (nH c (by rw[e];exact cD)).2 (show 57<128 by decide))).so (fj.one (by decide)).so,Ol]
  have fin:fv G [.ret (.bi .jB [(.jC 0)])] [some (.str (cQ n)),some (.int (k:Nat))] M' (λ_ Sf=>W.d D.br=.d (.int n)/\Ex M Sf) (λr Sf=>r=.d (.int n)/\Ex M Sf) (λ_ _=>False) (λ_ _=>False):=by
   nofun;rw[B_ Pm];exact⟨rfl,g⟩
  by_cases q:c=48
  ·subst q;have e2:cQ n=ch 48:=iC (by rw[e,(hz rfl).2]);rw[fw];nofun;rw[y6 (gQ n).so (fj.one (by decide)).so,e2,fw];rw[e2]at fin;exact fin
  ·rw[lE.mpr q];exact fin
def nJ(k:Nat)(F:Fn):Prop:=∀n,n<10 ^ k->u7 F (cQ n) (.int n)
theorem Sg{G:bf}{fN:Nat}(hF:Ca (G fN)):nJ 9 (aq G 1 (Ew fN)):=by
 intro n hn M;rw[b_];show fv G (Ew fN) [some (.str (cQ n))] M _ _ _ _;nofun;exact hF M n 9 hn (by decide) (by decide)
theorem Sh{G:bf}{fN:Nat}(hF:Ca (G fN)):nJ 10 (aq G 1 (Ey fN)):=by
 intro n hn M;rw[b_];show fv G (Ey fN) [some (.str (cQ n))] M _ _ _ _;nofun;exact hF M n 10 hn (by decide) (by decide)
def Pn(c:Str):Prop:=c = "a" \/ c = "b" \/ c = "z"
def II(F:Fn):Prop:=∀(M:ab)(c:Str),Pn c->aK (F [.str c] M) λr M'=>r=.d (.bl true)/\Ex M M'
theorem Si{G:bf}:II (aq G 1 Et):=by
 intro M c hc;rw[b_];show fv G Et [some (.str c)] M _ _ _ _;rcases hc with rfl | rfl | rfl
 all_goals
  nofun;exact⟨rfl,Ex.refl M⟩
def IJ(F:Fn):Prop:=∀c,Pn c->u7 F c (.str c)
theorem Sj{G:bf}{pD:Nat}(hS:II (G pD)):IJ (aq G 1 (Ez pD)):=by
 intro c hc M;rw[b_];show fv G (Ez pD) [some (.str c)] M _ _ _ _;nofun;refine(hS M c hc).imp ?_;rintro r M' ⟨rfl,g⟩;nofun;exact⟨rfl,g⟩
theorem zi{M:ab}{c:Nat}{a b:Str}(ha:c∉a.cps.toList)(hb:c∉b.cps.toList)(IK:c<256)(hl:a.length+b.length<=900):gI true (.d (.str (a++ch c++b))) (.d (.str (ch c))) M=.ok (.d (.tup [.str a,.str (ch c),.str b])) M:=by
 have hs:(Txt.split (a++ch c++b) (ch c)).length<=sizeLine:=by
  have e:a++ch c++b=Str.join (ch c) [a,b]:=rfl;rw[e,la IK (zZ _ _) (λt m=>(bF.mp m).elim (λz=>by rw[z];exact ha) λz=>by rw[jr.mp z];exact hb)];exact af (show 2<=1000 by decide)
 have hz:(a++ch c++b).length<=sizeLine:=af (by rw[gU,gU];show a.length+1+b.length<=1000;omega);unfold gI;dsimp only;rw[aG ⟨rfl,hz,hs⟩,uV ha hb]
def pE(G:bf)(tv:List (Addr×Nat))(F:Fn):Prop:=∀(M:ab)(c:Nat)(a b:Str)(f1 f2:Addr)(i1 i2:Nat)(d1 d2:D),c∉a.cps.toList->c∉b.cps.toList->c<256->a.length+b.length<=900->tv.lookup f1=some i1->tv.lookup f2=some i2->u7 (G i1) a d1->u7 (G i2) b d2 ->
 aK (F [.str (a++ch c++b),.str (ch c),.fn f1,.fn f2] M) λr M'=>r=.d (.tup [d1,d2])/\Ex M M'
theorem qO{ρ:En}{i f:Nat}{a:Addr}{tv:List (Addr×Nat)}(h:ρ[i]?=some (some (.fn a)))(e:tv.lookup a=some f):uC ρ i tv=some f:=by unfold uC;rw[h];exact e
theorem EB{G:bf}{tv:List (Addr×Nat)}:pE G tv (aq G 5 (N_ tv)):=by
 intro M c a b f1 f2 i1 i2 d1 d2 ha hb hc hl t1 t2 h1 h2;have v1:∀ρ:En,ρ[2]?=some (some (.fn f1))->uC ρ 2 tv=some i1:=λρ h=>qO h t1;have v2:∀ρ:En,ρ[3]?=some (some (.fn f2))->uC ρ 3 tv=some i2:=λρ h=>qO h t2;rw[b_];show fv G (N_ tv) [some (.str (a++ch c++b)),some (.str (ch c)),some (.fn f1),some (.fn f2),none] M _ _ _ _;nofun;rw[zi ha hb hc hl];nofun;rw[v1 _ (by rfl)];nofun;refine(h1 M).imp ?_;rintro r M1 ⟨rfl,g1⟩;nofun;rw[v2 _ (by rfl)];nofun;refine(h2 M1).imp ?_;rintro r M2 ⟨rfl,g2⟩;nofun;exact⟨af (bW rfl),rfl,g1.trans g2⟩
abbrev iN(n:Nat):D:=.int (n:Nat)
def nP(p:Nat×Nat):D:=.tup [iN p.1,iN p.2]
def qP(p:Nat×Nat):Str:=cQ p.1++ch 46++cQ p.2
def u9(ns:List Nat):Str:=Str.join (ch 44) (ns.map cQ)
noncomputable def zM(ps:List (Nat×Nat)):Str:=Str.join (ch 44) (ps.map qP)
noncomputable def mz(w:Nat×List (Nat×Nat)):D:=.tup [iN w.1,.tup (w.2.map nP)]
def lp(w:Nat×List (Nat×Nat)):Str:=cQ w.1++ch 58++zM w.2
def pF(p:Nat×Nat):Prop:=p.1<10 ^ 9/\p.2<10 ^ 10
noncomputable def zj(w:Nat×List (Nat×Nat)):Prop:=w.1<10 ^ 9/\w.2≠[]/\w.2.length<=3/\∀p∈w.2,pF p
noncomputable def pG(ns:List Nat):Prop:=ns≠[]/\ns.length<=4/\∀n∈ns,n<10 ^ 9
theorem jO{p:Nat×Nat}(h:pF p):(qP p).length<=20:=by
 have h1:=ba (k:=9) h.1 (by decide);have h2:=ba (k:=10) h.2 (by decide);unfold qP;rw[gU,gU];show _+1+_<=20;omega
theorem lq{p:Nat×Nat}{k:Nat}(h:k=32\/k=44\/k=58):k∉(qP p).cps.toList:=by
 have hk:k≠45/\(k<48\/57<k):=∅;exact iE (iE (cR hk) (fO ∅)) (cR hk)
theorem sQ(p:Nat×Nat):fj (qP p):=((gQ _).app (fj.one (by decide))).app (gQ _)
theorem lr{xs:List Str}{k:Nat}(h:∀x∈xs,x.length<=k):(xs.map (·.length)).sum<=xs.length*k:=by
 induction xs with
 | nil=>simp
 | cons x xs ih =>
  rw[cA,vq,iH,Nat.succ_mul];have h1:=h x cD;have h2:=ih λy m=>h y (du _ m);omega
theorem sR{c k:Nat}{xs:List Str}(h:∀x∈xs,x.length<=k):(Str.join (ch c) xs).length<=xs.length*(k+1):=by
 have h1:=lh (ch c) xs;have h2:=lr h;have h3:(ch c).length=1:=rfl;rw[h3]at h1;rw[Nat.mul_add];omega
theorem sS{ns:List Nat}(h:pG ns):(u9 ns).length<=40:=by
 have:=sR (c:=44) (k:=9) (xs:=ns.map cQ) λx m=>by
  obtain⟨n,hn,rfl⟩:=dD.mp m;exact ba (h.2.2 n hn) (by decide)
 rw[aV]at this;have h2:=h.2.1;unfold u9;omega
theorem jP{ps:List (Nat×Nat)}(h1:ps.length<=3)(h:∀p∈ps,pF p):(zM ps).length<=63:=by
 have:=sR (c:=44) (k:=20) (xs:=ps.map qP) λx m=>by
  obtain⟨n,hn,rfl⟩:=dD.mp m;exact jO (h n hn)
 rw[aV]at this;unfold zM;omega
theorem Cb{w:Nat×List (Nat×Nat)}(h:zj w):(lp w).length<=73:=by
 have h1:=ba (k:=9) h.1 (by decide);have h2:=jP h.2.2.1 h.2.2.2;unfold lp;rw[gU,gU];show _+1+_<=73;omega
theorem pH{ns:List Nat}{k:Nat}(h:k=32):k∉(u9 ns).cps.toList:=jc ∅ λx m=>by
 obtain⟨n,_,rfl⟩:=dD.mp m;exact cR ∅
theorem pI{ps:List (Nat×Nat)}{k:Nat}(h:k=32\/k=58):k∉(zM ps).cps.toList:=jc ∅ λx m=>by
 obtain⟨n,_,rfl⟩:=dD.mp m;exact lq ∅
theorem zk{w:Nat×List (Nat×Nat)}{k:Nat}(h:k=32):k∉(lp w).cps.toList:=iE (iE (cR ∅) (fO ∅)) (pI ∅)
theorem sT(ns:List Nat):fj (u9 ns):=fj.join (by decide) λx m=>by obtain⟨n,_,rfl⟩:=dD.mp m;exact gQ n
theorem Cc(ps:List (Nat×Nat)):fj (zM ps):=fj.join (by decide) λx m=>by obtain⟨n,_,rfl⟩:=dD.mp m;exact sQ n
theorem Cd(w:Nat×List (Nat×Nat)):fj (lp w):=((gQ _).app (fj.one (by decide))).app (Cc _)
theorem mB{M:ab}{c:Nat}{xs:List Str}(IK:c<256)(hn:xs≠[])(hf:∀t∈xs,c∉t.cps.toList)(h1:xs.length<=900)(h2:(xs.map (·.length)).sum+xs.length<=1000):gI false (.d (.str (Str.join (ch c) xs))) (.d (.str (ch c))) M=.ok (.lv (xs.map D.str)) M:=by
 have hz:(Str.join (ch c) xs).length<=sizeLine:=af (d7 (lh (ch c) xs) (by show _+xs.length*1<=1000;omega));unfold gI;dsimp only;rw[la IK hn hf,aG ⟨rfl,hz,af ∅⟩]
def Po(F:Fn):Prop:=∀p,pF p->u7 F (qP p) (nP p)
theorem V0{G Gv:bf}{lg:Nat}{aN aL:Addr}{iN iL:Nat}{tv:List (Addr×Nat)}(hP:pE Gv tv (G lg))(t1:tv.lookup aN=some iN)(t2:tv.lookup aL=some iL)(h1:nJ 9 (Gv iN))(h2:nJ 10 (Gv iL)):Po (aq G 1 (Oa lg aN aL)):=by
 intro p hp M;rw[b_];show fv G (Oa lg aN aL) [some (.str (qP p))] M _ _ _ _;nofun;have l1:=ba (k:=9) hp.1 (by decide);have l2:=ba (k:=10) hp.2 (by decide);exact hP M 46 (cQ p.1) (cQ p.2) aN aL iN iL _ _ (cR (by decide)) (cR (by decide)) (by decide) ∅ t1 t2 (h1 _ hp.1) (h2 _ hp.2)
def Om(k:Nat):List S:=[.ret (.bi .tuple1 [(.comp .seq [(.lN false 0 (.a_ (.str ",")))] [1] none (.call k [1]) [none,none])])]
theorem TM{α:Type}{G:bf}{k:Nat}{tx:α->Str}{dt:α->D}(l:List α)(hl:l≠[])(h4:l.length<=9)(hx:∀x∈l,44∉(tx x).cps.toList/\(tx x).length<=90/\u7 (G k) (tx x) (dt x)):u7 (aq G 1 (Om k)) (Str.join (ch 44) (l.map tx)) (.tup (l.map dt)):=by
 intro M;rw[b_];show fv G (Om k) [some (.str (Str.join (ch 44) (l.map tx)))] M _ _ _ _;unfold Om;nofun
 rw[Sa,mB (c:=44) (xs:=l.map tx) (by decide) (by simpa using hl) (λt m=>by obtain⟨x,Sk,rfl⟩:=dD.mp m;exact(hx x Sk).1) (by rw[aV];omega) (by
  have:=lr (xs:=l.map tx) (k:=90) λt m=>by obtain⟨x,Sk,rfl⟩:=dD.mp m;exact(hx x Sk).2.1
  rw[aV]at this⊢;omega)]
 nofun;refine k_ (ds:=(l.map tx).map D.str) (λi M' aB=>Ex M M'/\aB=(l.take i).map dt) (by decide) (λi M' aB h hi=>rfl) ⟨Ex.refl M,rfl⟩ ?_ ?_ rfl
 ·rintro i M' aB d hd ⟨g,rfl⟩;rw[dP,dP]at hd
  cases Jm:l[i]? with
  | none=>rw[Jm]at hd;cases hd
  | some x =>
   rw[Jm]at hd;cases hd;refine⟨bS (by rw[aV,jS];omega),?_⟩;nofun;refine((hx x (eL Jm)).2.2 M').imp ?_;rintro r M2 ⟨rfl,g2⟩;nofun;exact⟨g.trans g2,by rw[c_ Jm,lG];rfl⟩
 ·rintro M' aB ⟨g,rfl⟩;nofun;rw[aV,aV,mD];exact⟨rfl,g⟩
theorem IL(k:Nat):Oc k=Om k:=rfl
theorem IM(k:Nat):Oe k=Om k:=rfl
def Sl(F:Fn):Prop:=∀ns,pG ns->u7 F (u9 ns) (.tup (ns.map iN))
theorem V1{G:bf}{k:Nat}(h:nJ 9 (G k)):Sl (aq G 1 (Oc k)):=λns hn=>by
 rw[IL];exact TM ns hn.1 (by have:=hn.2.1;omega) λn m=>⟨cR (by decide),by have:=ba (k:=9) (hn.2.2 n m) (by decide);omega,h n (hn.2.2 n m)⟩
def Sm(F:Fn):Prop:=∀ps:List (Nat×Nat),ps≠[]->ps.length<=3->(∀p∈ps,pF p)->u7 F (zM ps) (.tup (ps.map nP))
theorem Sn{G:bf}{k:Nat}(h:Po (G k)):Sm (aq G 1 (Oe k)):=λps h0 h3 hp=>by
 rw[IM];exact TM ps h0 ∅ λp m=>⟨lq (by decide),by have:=jO (hp p m);omega,h p (hp p m)⟩
def So(F:Fn):Prop:=∀w,zj w->u7 F (lp w) (mz w)
theorem V2{G Gv:bf}{lg:Nat}{aN Pp:Addr}{iN Sq:Nat}{tv:List (Addr×Nat)}(hP:pE Gv tv (G lg))(t1:tv.lookup aN=some iN)(t2:tv.lookup Pp=some Sq)(h1:nJ 9 (Gv iN))(h2:Sm (Gv Sq)):So (aq G 1 (Of lg aN Pp)):=by
 intro w hw M;rw[b_];show fv G (Of lg aN Pp) [some (.str (lp w))] M _ _ _ _;nofun;have l1:=ba (k:=9) hw.1 (by decide);have l2:=jP hw.2.2.1 hw.2.2.2;exact hP M 58 (cQ w.1) (zM w.2) aN Pp iN Sq _ _ (cR (by decide)) (pI (by decide)) (by decide) ∅ t1 t2 (h1 _ hw.1) (h2 _ hw.2.1 hw.2.2.1 hw.2.2.2)
def IP:Option Addr->D
 | none=>.br
 | some a=>.fn a
def Pq(rs:List Addr)(fo:Option Addr)(i:Nat):Option Addr:=if i<rs.length then rs[i]? else fo
def Sr(G:bf)(tv:List (Addr×Nat))(F:Fn):Prop:=∀(M:ab)(aw:Nat)(w0:Str)(ws:List Str)(ds:List D)(rs:List Addr)(fo:Option Addr),M[aw]?=some (.lst ((w0::ws).map D.str))->ws.length=ds.length->rs.length<=ws.length->ws.length<=100 ->
 (∀(i:Nat)(w:Str)(d:D),ws[i]?=some w->ds[i]?=some d->∃a f,Pq rs fo i=some a/\tv.lookup a=some f/\u7 (G f) w d)->aK (F [.aX aw,.tg (rs.map D.fn),IP fo] M) λr M'=>∃v,r=.d (.aX v)/\M'[v]?=some (.lst ds)/\M.length<=v/\Ex M M'
theorem IQ{M:ab}{ds:List D}{i:Int}{x:D}(hi:0<=i)(h:ds[i.toNat]?=some x):dw (.d (.tg ds)) (.d (.int i)) M=.ok (.d x) M:=by
 unfold dw bL;simp only[sH hi h]
theorem V3{G:bf}{tv:List (Addr×Nat)}:Sr G tv (aq G 6 (Iz tv)):=by
  intro M aw w0 ws ds rs fo hM hl Ss V4 hr;have DR:((w0::ws).map D.str).length=ws.length+1:=by rw[aV,iH]
  have XD:=cJ hM;rw[b_];show fv G (Iz tv) [some (.aX aw),some (.tg (rs.map D.fn)),some (IP fo),none,none,none] M _ _ _ _;unfold Iz;nofun;refine⟨af (bW rfl),?_⟩;nofun;have m1:(M++[.lst []])[aw]?=some (.lst ((w0::ws).map D.str)):=fY hM;have v1:(M++[.lst []])[M.length]?=some (.lst []):=bB;have f1:Ex M (M++[.lst []]):=(Ex.refl M).app;generalize hv:M.length=v at v1;generalize M++[.lst []]=M1 at m1 v1 f1;rw[iB m1];nofun;rw[DR];refine⟨⟨by decide,by decide,∅,∅⟩,?_⟩;have e1:(((ws.length+1:Nat):Int)-1).toNat=ws.length:=∅;rw[e1];refine y8 (λi ρ M'=>∃o4 o5,ρ=[some (.aX aw),some (.tg (rs.map D.fn)),some (IP fo),some (.aX v),o4,o5]/\M'[aw]?=some (.lst ((w0::ws).map D.str))/\M'[v]?=some (.lst (ds.take i))/\Ex M M') ⟨none,none,rfl,m1,v1,f1⟩ ?_ ?_
  · rintro i ρ M2 hi ⟨o4,o5,rfl,m2,v2,f2⟩;obtain⟨w,hw⟩:∃w,ws[i]?=some w:=⟨_,jq hi⟩;obtain⟨d,hd⟩:∃d,ds[i]?=some d:=⟨_,jq ∅⟩;obtain⟨a,f,ha,ht,hF⟩:=hr i w d hw hd;have vf:∀ρ:En,ρ[5]?=some (some (.fn a))->uC ρ 5 tv=some f:=λρ h=>qO h ht
    have tail : fv G [.iff (.val (.cmp .isN (.jC 5) (.a_ .br))) [.never] [], .jE false (.me .append (.jC 3) [(.cM 5 tv [(.sub (.jC 0) (.jC 4))])])] [some (.aX aw), some (.tg (rs.map D.fn)), some (IP fo), some (.aX v), some (.int (1 + (i : Nat))), some (.fn a)] M2
        (λρ M'=>∃o4 o5,ρ=[some (.aX aw),some (.tg (rs.map D.fn)),some (IP fo),some (.aX v),o4,o5]/\M'[aw]?=some (.lst ((w0::ws).map D.str))/\M'[v]?=some (.lst (ds.take (i+1)))/\Ex M M') (λr M'=>∃v',r=.d (.aX v')/\M'[v']?=some (.lst ds)/\v<=v'/\Ex M M')
        (fv G [.iff (.val (.cmp .le (.bi .len [(.jC 0)]) (.bi .len [(.jC 1)]))) [.never] [],.ret (.jC 3)] · · (λ_ M'=>∃v',W.d D.br=.d (.aX v')/\M'[v']?=some (.lst ds)/\v<=v'/\Ex M M') (λr M'=>∃v',r=.d (.aX v')/\M'[v']?=some (.lst ds)/\v<=v'/\Ex M M') (λ_ _=>False) (λ_ _=>False))
        (λρ M'=>∃o4 o5,ρ=[some (.aX aw),some (.tg (rs.map D.fn)),some (IP fo),some (.aX v),o4,o5]/\M'[aw]?=some (.lst ((w0::ws).map D.str))/\M'[v]?=some (.lst (ds.take (i+1)))/\Ex M M'):=by
      nofun;refine⟨k8 v2,?_⟩;nofun;rw[vf _ (by rfl)];nofun;rw[eo m2 ∅ (x:=.str w) (by rw[show(1+(i:Nat):Int).toNat=i+1 by omega,cA,List.getElem?_cons_succ,dP,hw];rfl)];nofun;refine(hF M2).imp (er:=dA) ?_;rintro r M3 ⟨rfl,g3⟩;have m3:=Ex.get g3 m2;have v3:=Ex.get g3 v2;nofun;rw[k7 v3 (bS (by rw[jS];omega))];nofun;refine⟨_,_,rfl,dJ m3 ∅,?_,(f2.trans g3).set ∅⟩;rw[dq v3,c_ hd]
    nofun;rw[aV];by_cases TN:i<rs.length
    · rw[gX (show(1+(i:Nat):Int)<=((rs.length:Nat):Int) by omega)];have Su:rs[i]?=some a:=by unfold Pq at ha;rw[aG TN]at ha;exact ha
      nofun;rw[IQ ∅ (x:=.fn a) (by rw[show((1+(i:Nat):Int)-1).toNat=i by omega,dP,Su];rfl)];exact tail
    · rw[df (show ¬(1+(i:Nat):Int)<=((rs.length:Nat):Int) by omega)];have Su:fo=some a:=by unfold Pq at ha;rw[aR TN]at ha;exact ha
      subst Su;exact tail
  · rintro ρ M2 ⟨o4,o5,rfl,m2,v2,f2⟩;nofun;rw[iB m2,DR];nofun;rw[aV];rw[df (show ¬((ws.length+1:Nat):Int)<=((rs.length:Nat):Int) by omega)];nofun;rw[hl,mD]at v2;exact⟨v,rfl,v2,a6 _,f2⟩
inductive Dd where
 | pl (nm:Str) (ns:List Nat) | gR (n:Nat) (c:Str) | eI (r k:Nat) | jQ (ps:List Nat) | jo (ms li:List Nat) (ws:List (Nat×List (Nat×Nat)))
def Dd.at(M:ab):Dd->D->Prop
 | .pl nm ns,d=>d=.tup (.str nm::ns.map iN)
 | .gR n c,d=>d=.tup [.str "hear",iN n,.str c]
 | .eI r k,d=>d=.tup [.str "come",iN r,iN k]
 | .jQ ps,d=>d=.tup [.str "throw",.tup (ps.map iN)]
 | .jo ms li ws,d=>∃n,d=.tup [.str "fall",.tup (ms.map iN),.tup (li.map iN),.aX n]/\M[n]?=some (.lst (ws.map mz))
def Dd.ok:Dd->Prop
 | .pl nm ns=>((nm = "own" \/ nm = "keep")/\ns.length=1\/(nm = "note" \/ nm = "tell")/\ns.length=2)/\∀n∈ns,n<10 ^ 9
 | .gR n c=>n<10 ^ 9/\Pn c
 | .eI r k=>pF (r,k)
 | .jQ ps=>pG ps
 | .jo ms li ws=>pG ms/\pG li/\ws.length<=3/\∀w∈ws,zj w
noncomputable def Dd.nm:Dd->Str
 | .pl nm _=>nm
 | .gR _ _ => "hear"
 | .eI _ _ => "come"
 | .jQ _ => "throw"
 | .jo _ _ _ => "fall"
def Dd.ws:Dd->List Str
 | .pl _ ns=>ns.map cQ
 | .gR n c=>[cQ n,c]
 | .eI r k=>[qP (r,k)]
 | .jQ ps=>ps.map cQ
 | .jo ms li ws=>u9 ms::u9 li::ws.map lp
def Dd.tx(d:Dd):Str:=Str.join (ch 32) (d.nm::d.ws)
theorem Dd.at.ex{M M':ab}{d:Dd}{x:D}(h:d.at M x)(g:Ex M M'):d.at M' x:=by
 cases d with
 | jo ms li ws=>obtain⟨n,e,h⟩:=h;exact⟨n,e,Ex.get g h⟩
 | _=>exact h
theorem sU{c:Str}(h:Pn c):fj c/\c.length=1/\32∉c.cps.toList:=by
 rcases h with rfl | rfl | rfl
 ·exact⟨fj.one (c:=97) (by decide),rfl,fO (c:=97) (by decide)⟩
 ·exact⟨fj.one (c:=98) (by decide),rfl,fO (c:=98) (by decide)⟩
 ·exact⟨fj.one (c:=122) (by decide),rfl,fO (c:=122) (by decide)⟩
noncomputable def IS(s:Str):Bool:=s.cps.toList.all λc=>decide (c<128)&&decide (c≠32)
theorem sV{s:Str}(h:IS s=true):fj s/\32∉s.cps.toList:=by
 unfold IS at h;rw[jT]at h;have k:∀c∈s.cps.toList,c<128/\c≠32:=λc hc=>by simpa using h c hc
 exact⟨λc hc=>(k c hc).1,λm=>(k 32 m).2 rfl⟩
theorem qQ{d:Dd}(h:d.ok):fj d.nm/\32∉d.nm.cps.toList/\d.nm.length<=5:=by
 have k:∀s:Str,s = "own" \/ s = "keep" \/ s = "note" \/ s = "tell" \/ s = "hear" \/ s = "come" \/ s = "throw" \/ s = "fall" -> fj s/\32∉s.cps.toList/\s.length<=5:=by
  intro s h
  have:IS s=true/\s.length<=5:=by
   rcases h with rfl | rfl | rfl | rfl | rfl | rfl | rfl | rfl<;>exact⟨⋯,⋯⟩
  exact⟨(sV this.1).1,(sV this.1).2,this.2⟩
 cases d with
 | pl nm ns =>
  refine k nm ?_;rcases h.1 with⟨z | z,_⟩|⟨z | z,_⟩
  ·exact .inl z
  ·exact .inr (.inl z)
  ·exact .inr (.inr (.inl z))
  ·exact .inr (.inr (.inr (.inl z)))
 | gR n c=>exact k _ (.inr (.inr (.inr (.inr (.inl rfl)))))
 | eI r l=>exact k _ (.inr (.inr (.inr (.inr (.inr (.inl rfl))))))
 | jQ ps=>exact k _ (.inr (.inr (.inr (.inr (.inr (.inr (.inl rfl)))))))
 | jo ms li ws=>exact k _ (.inr (.inr (.inr (.inr (.inr (.inr (.inr rfl)))))))
theorem sW{d:Dd}(h:d.ok):d.ws.length<=5/\∀w∈d.ws,w.length<=80/\32∉w.cps.toList/\fj w:=by
 have nu:∀n,n<10 ^ 9->(cQ n).length<=80/\32∉(cQ n).cps.toList/\fj (cQ n):=λn hn=>⟨d7 (ba (k:=9) hn (by decide)) (by decide),cR (by decide),gQ n⟩
 cases d with
 | pl nm ns =>
  refine⟨?_,λw m=>?_⟩
  ·show(ns.map cQ).length<=5;rw[aV];rcases h.1 with⟨_,z⟩|⟨_,z⟩<;>omega
  ·obtain⟨n,hn,rfl⟩:=dD.mp m;exact nu n (h.2 n hn)
 | gR n c =>
  refine⟨show 2<=5 by decide,λw m=>?_⟩;rcases bF.mp m with z | z
  ·rw[z];exact nu n h.1
  ·rw[jr.mp z];obtain⟨a,b,c⟩:=sU h.2;exact⟨∅,c,a⟩
 | eI r l =>
  refine⟨show 1<=5 by decide,λw m=>?_⟩;rw[jr.mp m];exact⟨d7 (jO h) (by decide),lq (by decide),sQ _⟩
 | jQ ps =>
  refine⟨?_,λw m=>?_⟩
  ·show(ps.map cQ).length<=5;rw[aV];have:=h.2.1;omega
  ·obtain⟨n,hn,rfl⟩:=dD.mp m;exact nu n (h.2.2 n hn)
 | jo ms li ws =>
  refine⟨?_,λw m=>?_⟩
  ·show(ws.map lp).length+1+1<=5;rw[aV];have:=h.2.2.1;omega
  ·rcases bF.mp m with z | m
   ·rw[z];exact⟨d7 (sS h.1) (by decide),pH rfl,sT _⟩
   ·rcases bF.mp m with z | m
    ·rw[z];exact⟨d7 (sS h.2.1) (by decide),pH rfl,sT _⟩
    ·obtain⟨w,hw,rfl⟩:=dD.mp m;exact⟨d7 (Cb (h.2.2.2 w hw)) (by decide),zk rfl,Cd _⟩
theorem zl{d:Dd}(h:d.ok):fj d.tx:=fj.join (by decide) λx m=>by
 rcases bF.mp m with z | z
 ·rw[z];exact(qQ h).1
 ·exact((sW h).2 x z).2.2
theorem zm{d:Dd}(h:d.ok):((d.nm::d.ws).map (·.length)).sum+(d.nm::d.ws).length<=500:=by
 have h1:=(qQ h).2.2;obtain⟨h2,h3⟩:=sW h;have:=lr (xs:=d.ws) (k:=80) λw m=>(h3 w m).1;rw[cA,vq,iH];omega
def fk(s:Str):Prop:=s = "own" \/ s = "keep" \/ s = "note" \/ s = "tell" \/ s = "hear" \/ s = "come" \/ s = "throw" \/ s = "fall"
theorem Dd.d4{d:Dd}(h:d.ok):fk d.nm:=by
 cases d with
 | pl nm ns =>
  rcases h.1 with⟨z | z,_⟩|⟨z | z,_⟩
  ·exact .inl z
  ·exact .inr (.inl z)
  ·exact .inr (.inr (.inl z))
  ·exact .inr (.inr (.inr (.inl z)))
 | gR n c=>exact .inr (.inr (.inr (.inr (.inl rfl))))
 | eI r l=>exact .inr (.inr (.inr (.inr (.inr (.inl rfl)))))
 | jQ ps=>exact .inr (.inr (.inr (.inr (.inr (.inr (.inl rfl))))))
 | jo ms li ws=>exact .inr (.inr (.inr (.inr (.inr (.inr (.inr rfl))))))
theorem fi{s:Str}(h:fk s):PyData.strOk s=true:=by
 rcases h with rfl | rfl | rfl | rfl | rfl | rfl | rfl | rfl<;>decide +kernel
theorem bT{M:ab}{s t:Str}(h:fk s)(k:fk t):bM .eq (.d (.str s)) (.d (.str t)) M=.ok (s==t) M:=y4 (fi h) (fi k)
theorem EC{M:ab}{s t:Str}(h:fk s)(k:fk t):bM .ne (.d (.str s)) (.d (.str t)) M=.ok (!(s==t)) M:=y6 (fi h) (fi k)
theorem eu:fk "come" := .inr (.inr (.inr (.inr (.inr (.inl rfl)))))
theorem jd:fk "throw" := .inr (.inr (.inr (.inr (.inr (.inr (.inl rfl))))))
theorem fm:fk "fall" := .inr (.inr (.inr (.inr (.inr (.inr (.inr rfl))))))
def Jn(F:Fn):Prop:=∀(M:ab)(d:Dd)(x:D),d.ok->d.at M x->aK (F [x] M) λr M'=>r=.d (.str d.tx)/\Ex M M'
theorem dO{F:Fn} (hB:uW " " F) {M:ab} {d:Dd} {x:D} {ps:List Wp} (hd:d.ok) (hp:ps.map Wp.t=d.nm::d.ws) (bc:∀w∈ps,w.ok) (hx:Oh M x (ps.map Wp.d)):aK (F [x] M) λr M'=>r=.d (.str d.tx)/\Ex M M':=by
 have hl:ps.length=(d.nm::d.ws).length:=by rw[<- hp,aV]
 have h5:=(sW hd).1;have hs:=zm hd;refine(hB M x ps hx bc (by rw[hl,iH];omega) ?_).imp λr M' ⟨e,g⟩=>⟨by rw[e,hp];rfl,g⟩;rw[hp,hl];show _+_*1<=1000;omega
theorem sX{ns:List Nat}(h:∀n∈ns,n<10 ^ 9):∀w∈ns.map Wp.num,w.ok:=λw m=>by
 obtain⟨n,hn,rfl⟩:=dD.mp m;exact iI (h n hn) (by decide)
theorem uX(ns:List Nat):(ns.map Wp.num).map Wp.t=ns.map cQ:=by rw[pU];rfl
theorem zo(ns:List Nat):(ns.map Wp.num).map Wp.d=ns.map iN:=by rw[pU];rfl
theorem IT{α:Type}{f:α->Str}(l:List α):(l.map λa=>Wp.jF (f a)).map Wp.t=l.map f:=by rw[pU];rfl
theorem Oo{α:Type}{f:α->Str}(l:List α):(l.map λa=>Wp.jF (f a)).map Wp.d=l.map λa=>D.str (f a):=by rw[pU];rfl
theorem iF{F:Fn} (hC:uW "," F) {M:ab} {x:D} {ns:List Nat} (h:pG ns) (hx:x=.tup (ns.map iN)):aK (F [x] M) λr M'=>r=.d (.str (u9 ns))/\Ex M M':=by
 have h4:=h.2.1;have:=lr (xs:=ns.map cQ) (k:=9) λw m=>by obtain⟨n,hn,rfl⟩:=dD.mp m;exact ba (h.2.2 n hn) (by decide)
 rw[aV]at this;refine(hC M x (ns.map Wp.num) (.inl (by rw[zo];exact hx)) (sX h.2.2) (by rw[aV];omega) ?_).imp λr M' ⟨e,g⟩=>⟨by rw[e,uX];rfl,g⟩;rw[uX,aV];show _+_*1<=1000;omega
theorem pJ{F:Fn} (hC:uW "," F) {M:ab} {n:Nat} {ps:List (Nat×Nat)} (h3:ps.length<=3) (h:∀p∈ps,pF p) (hx:M[n]?=some (.lst (ps.map λp=>D.str (qP p)))):aK (F [.aX n] M) λr M'=>r=.d (.str (zM ps))/\Ex M M':=by
 have:=lr (xs:=ps.map qP) (k:=20) λw m=>by obtain⟨n,hn,rfl⟩:=dD.mp m;exact jO (h n hn)
 rw[aV]at this;refine(hC M (.aX n) (ps.map λp=>Wp.jF (qP p)) (.inr ⟨n,rfl,by rw[Oo];exact hx⟩) (λw m=>by obtain⟨p,_,rfl⟩:=dD.mp m;trivial) (by rw[aV];omega) ?_).imp λr M' ⟨e,g⟩=>⟨by rw[e,IT];rfl,g⟩;rw[IT,aV];show _+_*1<=1000;omega
theorem zp{M:ab}{n:Nat}{xs ys:List D}(h:M[n]?=some (.lst ys))(hl:xs.length+ys.length<=sizeLine):lP .add (.lv xs) (.d (.aX n)) M=.ok (.lv (xs++ys)) M:=by
 unfold lP dH;simp only[h];exact aG hl
theorem Sv(ws:List (Nat×List (Nat×Nat))):(Wp.jF "fall" :: Wp.jF a::Wp.jF b::ws.map λw=>Wp.jF (lp w)).map Wp.d=[D.str "fall",.str a,.str b]++ws.map λw=>D.str (lp w):=by
 rw[cA,cA,cA,Oo];rfl
theorem pK{F:Fn} (hB:uW " " F) {M:ab} {ms li:List Nat} {ws:List (Nat×List (Nat×Nat))} {n:Nat} (hd:(Dd.jo ms li ws).ok) (hx:M[n]?=some (.lst ([D.str "fall",.str (u9 ms),.str (u9 li)]++ws.map λw=>D.str (lp w)))):aK (F [.aX n] M) λr M'=>r=.d (.str (Dd.jo ms li ws).tx)/\Ex M M' :=
 dO hB (ps:=.jF "fall" :: .jF (u9 ms)::.jF (u9 li)::ws.map λw=>.jF (lp w)) hd (by rw[cA,cA,cA,IT];rfl) (λw m=>by
  simp only[bF,dD]at m;rcases m with rfl | rfl | rfl | ⟨_,_,rfl⟩<;>trivial) (.inr ⟨n,rfl,by rw[Sv];exact hx⟩)
theorem ED{nm:Str} (h:nm = "own" \/ nm = "keep" \/ nm = "note" \/ nm = "tell" \/ nm = "hear"):fk nm/\(nm == "come")=false/\(nm == "throw")=false/\(nm == "fall")=false:=by
 rcases h with rfl | rfl | rfl | rfl | rfl
 ·exact⟨.inl rfl,⋯,⋯,⋯⟩
 ·exact⟨.inr (.inl rfl),⋯,⋯,⋯⟩
 ·exact⟨.inr (.inr (.inl rfl)),⋯,⋯,⋯⟩
 ·exact⟨.inr (.inr (.inr (.inl rfl))),⋯,⋯,⋯⟩
 ·exact⟨.inr (.inr (.inr (.inr (.inl rfl)))),⋯,⋯,⋯⟩
theorem Dd.Sw{d:Dd}{M:ab}{x:D}(h:d.ok)(hx:d.at M x)(n1:∀r k,d≠.eI r k)(n2:∀ps,d≠.jQ ps)(n3:∀a b c,d≠.jo a b c):∃(a b:D) (r:List D) (ps:List Wp),x=.tup (.str d.nm::a::r)/\r.length<=1/\(fk d.nm/\(d.nm == "come")=false/\(d.nm == "throw")=false/\(d.nm == "fall")=false)/\ps.map Wp.t=d.nm::d.ws/\(∀w∈ps,w.ok)/\.str d.nm::a::r=ps.map Wp.d:=by
 cases d with
 | eI r k=>exact absurd rfl (n1 r k)
 | jQ ps=>exact absurd rfl (n2 ps)
 | jo a b c=>exact absurd rfl (n3 a b c)
 | gR n c =>
  refine⟨iN n,.br,[.str c],[.jF "hear",.num n,.jF c],hx,a6 _,ED (.inr (.inr (.inr (.inr rfl)))),rfl,λw m=>?_,rfl⟩;simp only[bF,gV,gD]at m;rcases m with rfl | rfl | rfl
  ·trivial
  ·exact iI h.1 (by decide)
  ·trivial
 | pl nm ns =>
  have hn:fk nm/\(nm == "come")=false/\(nm == "throw")=false/\(nm == "fall")=false:=ED (by
   rcases h.1 with⟨z | z,_⟩|⟨z | z,_⟩
   ·exact .inl z
   ·exact .inr (.inl z)
   ·exact .inr (.inr (.inl z))
   ·exact .inr (.inr (.inr (.inl z))))
  have bc:∀w∈Wp.jF nm::ns.map Wp.num,w.ok:=λw m=>by
   rcases bF.mp m with z | z
   ·rw[z];trivial
   ·exact sX h.2 w z
  have hx:x=.tup (.str nm::ns.map iN):=hx;have hl:ns.length=1\/ns.length=2:=by rcases h.1 with⟨_,z⟩|⟨_,z⟩<;>omega
  rcases ns with _|⟨a,_|⟨b,_|⟨c,ns⟩⟩⟩
  ·simp at hl
  ·exact⟨iN a,.br,[],_,hx,Nat.zero_le _,hn,by rw[cA,uX];rfl,bc,by rw[cA,zo];rfl⟩
  ·exact⟨iN a,.br,[iN b],_,hx,a6 _,hn,by rw[cA,uX];rfl,bc,by rw[cA,zo];rfl⟩
  ·simp at hl
theorem V5{G:bf}{kB kL kP kC:Nat} (hB:uW " " (G kB)) (hL:Oi "." (G kL)) (hP:Oi ":" (G kP)) (hC:uW "," (G kC)):Jn (aq G 2 (Iy kB kL kP kC)):=by
 intro M d x hd hx;rw[b_];show fv G (Iy kB kL kP kC) [some x,none] M _ _ _ _;unfold Iy;by_cases q1:∃r k,d=.eI r k
 ·obtain⟨r,k,rfl⟩:=q1;obtain rfl:x=.tup [.str "come",iN r,iN k]:=hx;nofun;rw[bT eu eu,fw];nofun;have l1:=ba (k:=9) hd.1 (by decide);have l2:=ba (k:=10) hd.2 (by decide);refine(hL M (.num r) (.num k) (iI hd.1 (by decide)) hd.2 (show(cQ r).length+1+(cQ k).length<=1000 by have h9:(cQ r).length<=9:=l1;have Pm:(cQ k).length<=10:=l2;omega)).imp ?_;rintro y M1 ⟨rfl,rfl⟩;nofun;refine⟨af (bW rfl),?_⟩;nofun;refine(dO hB (d:=.eI r k) (ps:=[.jF "come",.jF (qP (r,k))]) hd rfl (λw m=>by simp only[bF,gV,gD]at m;rcases m with rfl | rfl<;>trivial) (.inr ⟨_,rfl,bB⟩)).imp ?_;rintro y M2 ⟨e,g⟩;exact⟨e,Ex.trans (Ex.refl M1).app g⟩
 by_cases q2:∃ps,d=.jQ ps
 ·obtain⟨ps,rfl⟩:=q2;obtain rfl:x=.tup [.str "throw",.tup (ps.map iN)]:=hx;nofun;rw[bT jd eu,show(("throw" : Str) == "come")=false by decide +kernel];nofun;rw[bT jd jd,fw];nofun;have h4:=hd.2.1;refine⟨af (bW rfl),?_⟩;nofun;refine⟨af (by show 1+(ps.map iN).length<=1000;rw[aV];omega),?_⟩;nofun;exact dO hB (d:=.jQ ps) (ps:=.jF "throw" :: ps.map .num) hd (by rw[cA,uX];rfl) (λw m=>by exact(bF.mp m).elim (λz=>by rw[z];trivial) (sX hd.2.2 w)) (.inl (by rw[cA,zo];rfl))
 by_cases q3:∃a b c,d=.jo a b c
 ·obtain⟨ms,li,ws,rfl⟩:=q3;obtain⟨n,rfl,hn⟩:=hx;have h3:=hd.2.2.1;nofun;rw[bT fm eu,show(("fall" : Str) == "come")=false by decide +kernel];nofun;rw[bT fm jd,show(("fall" : Str) == "throw")=false by decide +kernel];nofun;rw[bT fm fm,fw];nofun;rw[qG hn];nofun;refine k_ (ds:=ws.map mz) (λi M' aB=>Ex M M'/\aB=(ws.take i).map λw=>D.str (lp w)) (by decide) (λi M' aB h hi=>Ep hn M' h.1 i hi) ⟨Ex.refl M,rfl⟩ ?_ ?_ (Iv hn)
  ·rintro i M1 aB d lu ⟨g1,rfl⟩;rw[dP]at lu
   cases hw:ws[i]? with
   | none=>rw[hw]at lu;cases lu
   | some w =>
    rw[hw]at lu;cases lu;have pL:=hd.2.2.2 w (eL hw);refine⟨bS (by rw[aV,jS];omega),?_⟩;nofun;refine k_ (ds:=w.2.map nP) (λj M' aB=>M'=M1/\aB=(w.2.take j).map λp=>D.str (qP p)) (by decide) (λi M' aB h hi=>rfl) ⟨rfl,rfl⟩ ?_ ?_ rfl
    ·rintro j M2 aB d lu ⟨rfl,rfl⟩;rw[dP]at lu
     cases hp:w.2[j]? with
     | none=>rw[hp]at lu;cases lu
     | some p =>
      rw[hp]at lu;cases lu;have Ce:=pL.2.2.2 p (eL hp);have l3:=pL.2.2.1;refine⟨bS (by rw[aV,jS];omega),?_⟩;nofun;have l1:=ba (k:=9) Ce.1 (by decide);have l2:=ba (k:=10) Ce.2 (by decide);refine(hL M2 (.num p.1) (.num p.2) (iI Ce.1 (by decide)) Ce.2 (show(cQ p.1).length+1+(cQ p.2).length<=1000 by omega)).imp ?_;rintro y M3 ⟨rfl,rfl⟩;nofun;exact⟨rfl,by rw[c_ hp,lG];rfl⟩
    ·rintro M2 aB ⟨rfl,rfl⟩;rw[aV,mD];nofun;refine(pJ hC pL.2.2.1 pL.2.2.2 bB).imp ?_;rintro y M3 ⟨rfl,g3⟩;nofun;have l1:=ba (k:=9) pL.1 (by decide);have l2:=jP pL.2.2.1 pL.2.2.2;refine(hP M3 (.num w.1) (.jF (zM w.2)) (iI pL.1 (by decide)) trivial (show(cQ w.1).length+1+(zM w.2).length<=1000 by omega)).imp ?_;rintro y M4 ⟨rfl,rfl⟩;nofun;exact⟨Ex.trans g1 (Ex.trans (Ex.refl M2).app g3),by rw[c_ hw,lG];rfl⟩
  ·rintro M1 aB ⟨g1,rfl⟩;rw[aV,mD];nofun;have v1:(M1++[.lst (ws.map λw=>D.str (lp w))])[M1.length]?=some (.lst (ws.map λw=>D.str (lp w))):=bB;have g1:Ex M (M1++[.lst (ws.map λw=>D.str (lp w))]):=g1.app;generalize M1++[.lst (ws.map λw=>D.str (lp w))]=M2 at v1 g1;refine(iF hC (M:=M2) hd.1 rfl).imp ?_;rintro y M3 ⟨rfl,g3⟩;nofun;refine(iF hC (M:=M3) hd.2.1 rfl).imp ?_;rintro y M4 ⟨rfl,g4⟩;nofun;refine⟨af (bW rfl),?_⟩;nofun;rw[zp (Ex.get g4 (Ex.get g3 v1)) (af (by show 3+(ws.map λw=>D.str (lp w)).length<=1000;rw[aV];omega))];nofun;exact(pK hB hd bB).imp λy M5 ⟨e,g5⟩=>⟨e,Ex.trans g1 (Ex.trans g3 (Ex.trans g4 (Ex.trans (Ex.refl M4).app g5)))⟩
 ·obtain⟨a,b,r,ps,rfl,hr,⟨h0,h1,h2,h3⟩,hp,bc,Aw⟩:=Dd.Sw hd hx (λr k e=>q1 ⟨r,k,e⟩) (λps e=>q2 ⟨ps,e⟩) λa b c e=>q3 ⟨a,b,c,e⟩;have tl:∀k,dw (.d (.tup (.str d.nm::a::r))) (.d (.int 0)) k=.ok (.d (.str d.nm)) k:=λk=>sI (by decide) rfl;nofun;rw[tl];nofun;rw[bT h0 eu,h1];nofun;rw[tl];nofun;rw[bT h0 jd,h2];nofun;rw[tl];nofun;rw[bT h0 fm,h3];nofun;exact dO hB hd hp bc (.inl (by rw[Aw]))
theorem gS{a b:Str}{M:ab}(h:a.length+b.length<=1000):qo (.d (.str a)) (.d (.str b)) M=.ok (.d (.str (a++b))) M:=by
 unfold qo;exact aG (af h)
theorem iG{M:ab}{n:Nat}(h:n<10 ^ 10):ic .str1 [.d (.int (n:Nat))] M=.ok (.d (.str (cQ n))) M:=sM (w:=.num n) h
theorem Cf:("come " : Str) = "come" ++ ch 32:=⋯
theorem Sx{G:bf}{kB kC:Nat} (hB:uW " " (G kB)) (hC:uW "," (G kC)):Jn (aq G 4 (zc kB kC)):=by
 intro M d x hd hx;rw[b_];show fv G (zc kB kC) [some x,none,none,none] M _ _ _ _;unfold zc;by_cases q1:∃r k,d=.eI r k
 ·obtain⟨r,k,rfl⟩:=q1;obtain rfl:x=.tup [.str "come",iN r,iN k]:=hx;nofun;rw[bT eu eu,fw];have hr:r<10 ^ 9:=hd.1;have hk:k<10 ^ 10:=hd.2;have l1:=ba (k:=9) hr (by decide);have l2:=ba (k:=10) hk (by decide);have l3:("come " : Str).length=5:=rfl;have l4:(ch 46).length=1:=rfl;nofun;rw[iG (iI hr (by decide))];nofun;rw[gS ∅];nofun;rw[Oj,gS (by rw[gU];omega)];nofun;rw[iG hk];nofun;rw[gS (by rw[gU,gU];omega)];refine⟨?_,Ex.refl M⟩;show W.d (.str ("come " ++ cQ r++ch 46++cQ k))=.d (.str ("come" ++ ch 32++(cQ r++ch 46++cQ k)));rw[Cf];simp only[Str.append_assoc]
 by_cases q2:∃ps,d=.jQ ps
 ·obtain⟨ps,rfl⟩:=q2;obtain rfl:x=.tup [.str "throw",.tup (ps.map iN)]:=hx;nofun;rw[bT jd eu,show(("throw" : Str) == "come")=false by decide +kernel];nofun;rw[bT jd jd,fw];nofun;have h4:=hd.2.1;refine⟨af (bW rfl),?_⟩;nofun;refine⟨af (by show 1+(ps.map iN).length<=1000;rw[aV];omega),?_⟩;nofun;exact dO hB (d:=.jQ ps) (ps:=.jF "throw" :: ps.map .num) hd (by rw[cA,uX];rfl) (λw m=>by exact(bF.mp m).elim (λz=>by rw[z];trivial) (sX hd.2.2 w)) (.inl (by rw[cA,zo];rfl))
 by_cases q3:∃a b c,d=.jo a b c
 ·obtain⟨ms,li,ws,rfl⟩:=q3;obtain⟨n,rfl,hn⟩:=hx;have h3:=hd.2.2.1;nofun;rw[bT fm eu,show(("fall" : Str) == "come")=false by decide +kernel];nofun;rw[bT fm jd,show(("fall" : Str) == "throw")=false by decide +kernel];nofun;rw[EC fm fm,fw];nofun;refine⟨af (bW rfl),?_⟩;nofun;have XE:=cJ hn;have n0:(M++[.lst []])[n]?=some (.lst (ws.map mz)):=fY hn;have v0:(M++[.lst []])[M.length]?=some (.lst []):=bB;have f0:Ex M (M++[.lst []]):=(Ex.refl M).app;generalize hv:M.length=v at v0;generalize M++[.lst []]=M0 at n0 v0 f0;rw[qG n0];nofun;refine R1 (ds:=ws.map mz) (λi ρ M'=>∃o2 o3,ρ=[some (.tup [.str "fall",.tup (ms.map iN),.tup (li.map iN),.aX n]),some (.aX v),o2,o3]/\M'[n]?=some (.lst (ws.map mz))/\M'[v]?=some (.lst ((ws.take i).map λw=>D.str (lp w)))/\Ex M M') (λi ρ M' h=>by obtain⟨_,_,_,h,_⟩:=h;exact h) ⟨none,none,rfl,n0,v0,f0⟩ ?_ ?_
  ·rintro i ρ M1 d lu ⟨o2,o3,rfl,n1,v1,f1⟩;rw[dP]at lu
   cases hw:ws[i]? with
   | none=>rw[hw]at lu;cases lu
   | some w =>
    rw[hw]at lu;cases lu;have pL:=hd.2.2.2 w (eL hw);have l1:=ba (k:=9) pL.1 (by decide);have l2:=jP pL.2.2.1 pL.2.2.2;have l4:(ch 58).length=1:=rfl;nofun;refine⟨k8 v1,?_⟩;nofun;rw[iG (iI pL.1 (by decide))];nofun;rw[Sb,gS ∅];nofun;refine k_ (ds:=w.2.map nP) (λj M' aB=>M'=M1/\aB=(w.2.take j).map λp=>D.str (qP p)) (by decide) (λi M' aB h hi=>rfl) ⟨rfl,rfl⟩ ?_ ?_ rfl
    ·rintro j M2 aB d lu ⟨rfl,rfl⟩;rw[dP]at lu
     cases hp:w.2[j]? with
     | none=>rw[hp]at lu;cases lu
     | some p =>
      rw[hp]at lu;cases lu;have Ce:=pL.2.2.2 p (eL hp);have l3:=pL.2.2.1;have k1:=ba (k:=9) Ce.1 (by decide);have k2:=ba (k:=10) Ce.2 (by decide);have k4:(ch 46).length=1:=rfl;refine⟨bS (by rw[aV,jS];omega),?_⟩;nofun;rw[iG (iI Ce.1 (by decide))];nofun;rw[Oj,gS ∅];nofun;rw[iG Ce.2];nofun;rw[gS (by rw[gU];omega)];exact⟨rfl,by rw[c_ hp,lG];rfl⟩
    ·rintro M2 aB ⟨rfl,rfl⟩;rw[aV,mD];nofun;refine(pJ hC pL.2.2.1 pL.2.2.2 bB).imp ?_;rintro y M3 ⟨rfl,g3⟩;have g3:=Ex.trans (Ex.refl M2).app g3;have v3:=Ex.get g3 v1;nofun;rw[gS (by rw[gU];omega)];nofun;rw[k7 v3 (bS (by rw[aV,jS];omega))];nofun;have Hi:M.length<=v:=∅;refine⟨_,_,rfl,dJ (Ex.get g3 n1) ∅,?_,(Ex.trans f1 g3).set Hi⟩;rw[dq v3,c_ hw,lG];rfl
  ·rintro ρ M2 ⟨o2,o3,rfl,n2,v2,f2⟩;rw[aV,mD]at v2;nofun;refine(iF hC (M:=M2) hd.1 rfl).imp ?_;rintro y M3 ⟨rfl,g3⟩;nofun;refine(iF hC (M:=M3) hd.2.1 rfl).imp ?_;rintro y M4 ⟨rfl,g4⟩;nofun;refine⟨af (bW rfl),?_⟩;nofun;rw[zp (Ex.get g4 (Ex.get g3 v2)) (af (by show 3+(ws.map λw=>D.str (lp w)).length<=1000;rw[aV];omega))];nofun;exact(pK hB hd bB).imp λy M5 ⟨e,g5⟩=>⟨e,Ex.trans f2 (Ex.trans g3 (Ex.trans g4 (Ex.trans (Ex.refl M4).app g5)))⟩
 ·obtain⟨a,b,r,ps,rfl,hr,⟨h0,h1,h2,h3⟩,hp,bc,Aw⟩:=Dd.Sw hd hx (λr k e=>q1 ⟨r,k,e⟩) (λps e=>q2 ⟨ps,e⟩) λa b c e=>q3 ⟨a,b,c,e⟩;have tl:∀k,dw (.d (.tup (.str d.nm::a::r))) (.d (.int 0)) k=.ok (.d (.str d.nm)) k:=λk=>sI (by decide) rfl;nofun;rw[tl];nofun;rw[bT h0 eu,h1];nofun;rw[tl];nofun;rw[bT h0 jd,h2];nofun;rw[tl];nofun;rw[EC h0 fm,h3];nofun;exact dO hB hd hp bc (.inl (by rw[Aw]))
def qR(F:Fn):Prop:=∀(M:ab)(d:Dd),d.ok->aK (F [.str d.tx] M) λr M'=>∃x,r=.d x/\d.at M' x/\Ex M M'
noncomputable def sY(aN aS aL aNs aW:Addr):lC:=[("own",[aN],none),("hear",[aN,aS],none),("come",[aL],none),("keep",[aN],none),("note",[aN,aN],none),("tell",[aN,aN],none),("throw",[aN],some aN),("fall",[aNs,aNs],some aW)]
noncomputable def Dd.rs(aN aS aL aNs aW:Addr):Dd->List Addr×Option Addr
 | .pl _ ns=>(ns.map λ_=>aN,none)
 | .gR _ _=>([aN,aS],none)
 | .eI _ _=>([aL],none)
 | .jQ _=>([aN],some aN)
 | .jo _ _ _=>([aNs,aNs],some aW)
theorem lz{aN aS aL aNs aW:Addr}{d:Dd}(h:d.ok):(sY aN aS aL aNs aW).lookup d.nm=some (d.rs aN aS aL aNs aW):=by
 cases d with
 | pl nm ns =>
  obtain⟨h,_⟩:=h;rcases h with⟨z | z,e⟩|⟨z | z,e⟩<;>obtain rfl:=z
  all_goals
   rcases ns with _|⟨a,_|⟨b,_|⟨c,ns⟩⟩⟩<;>first | (simp at e;done) | rfl
 | _=>rfl
def Dd.vs:Dd->List D
 | .pl _ ns=>ns.map iN
 | .gR n c=>[iN n,.str c]
 | .eI r k=>[nP (r,k)]
 | .jQ ps=>ps.map iN
 | .jo ms li ws=>.tup (ms.map iN)::.tup (li.map iN)::ws.map mz
theorem IU{G:bf}{kV:Nat}{tv:List (Addr×Nat)}{aN aS aL aNs aW:Addr}{Oq iS iL Pr iW:Nat}{Gv:bf}(hV:Sr Gv tv (G kV))(tN:tv.lookup aN=some Oq)(tS:tv.lookup aS=some iS)(tL:tv.lookup aL=some iL)(TQ:tv.lookup aNs=some Pr)(tW:tv.lookup aW=some iW)(hN:nJ 9 (Gv Oq))(hS:IJ (Gv iS))(hL:Po (Gv iL))(TR:Sl (Gv Pr))(hW:So (Gv iW)):qR (aq G 4 (IA kV (sY aN aS aL aNs aW))):=by
 intro M d hd;have zN:=sW hd;have hn:=qQ hd;have V6:=zm hd;rw[b_];show fv G (IA kV (sY aN aS aL aNs aW)) [some (.str d.tx),none,none,none] M _ _ _ _;unfold IA;nofun;rw[R_,show d.tx=Str.join (ch 32) (d.nm::d.ws) from rfl,mB (c:=32) (xs:=d.nm::d.ws) (by decide) (zZ _ _) (λt m=>by exact(bF.mp m).elim (λz=>by rw[z];exact hn.2.1) λz=>(zN.2 t z).2.1) (by rw[iH];omega) ∅];nofun;have w0:(M++[.lst ((d.nm::d.ws).map D.str)])[M.length]?=some (.lst ((d.nm::d.ws).map D.str)):=bB;have f0:Ex M (M++[.lst ((d.nm::d.ws).map D.str)]):=(Ex.refl M).app;generalize hv:M.length=v at w0;generalize M++[.lst ((d.nm::d.ws).map D.str)]=M0 at w0 f0;rw[eo w0 (by decide) (x:=.str d.nm) rfl]
 have TU:∀M,nh (sY aN aS aL aNs aW) (.d (.str d.nm)) M=.ok (.d (.tg [.tg ((d.rs aN aS aL aNs aW).1.map D.fn),IP (d.rs aN aS aL aNs aW).2])) M:=λM=>by
  unfold nh;dsimp only;rw[lz hd];dsimp only;generalize d.rs aN aS aL aNs aW=p;obtain⟨p,q⟩:=p;cases q<;>rfl
 nofun;rw[lz hd];nofun;rw[TU];nofun;rw[TU];nofun
 have bu:d.ws.length=d.vs.length:=by
  cases d with
  | pl nm ns=>show(ns.map cQ).length=(ns.map iN).length;rw[aV,aV]
  | jQ ns=>show(ns.map cQ).length=(ns.map iN).length;rw[aV,aV]
  | jo ms li ws=>show(ws.map lp).length+1+1=(ws.map mz).length+1+1;rw[aV,aV]
  | _=>rfl
 have Ss:(d.rs aN aS aL aNs aW).1.length<=d.ws.length:=by
  cases d with
  | pl nm ns=>show(ns.map λ_=>aN).length<=(ns.map cQ).length;rw[aV,aV];exact a6 _
  | jQ ps =>
   show 1<=(ps.map cQ).length;rw[aV];exact List.length_pos_iff.mpr hd.1
  | jo ms li ws=>show 2<=(ws.map lp).length+1+1;omega
  | _=>exact a6 _
 have EE:∀(i:Nat)(w:Str)(x:D),d.ws[i]?=some w->d.vs[i]?=some x->∃a f,Pq (d.rs aN aS aL aNs aW).1 (d.rs aN aS aL aNs aW).2 i=some a/\tv.lookup a=some f/\u7 (Gv f) w x:=by
  intro i w x hw hx
  cases d with
  | pl nm ns =>
   have hw:(ns.map cQ)[i]?=some w:=hw;have hx:(ns.map iN)[i]?=some x:=hx;rw[dP]at hw hx
   cases e:ns[i]? with
   | none=>rw[e]at hw;cases hw
   | some n =>
    rw[e]at hw hx;cases hw;cases hx;have hi:=(eU.mp e).1;refine⟨aN,Oq,?_,tN,hN n (hd.2 n (eL e))⟩;show(if i<(ns.map λ_=>aN).length then (ns.map λ_=>aN)[i]? else none)=some aN;rw[aV,aG hi,dP,e];rfl
  | gR n c =>
   rcases i with _|_ | i
   ·cases hw;cases hx;exact⟨aN,Oq,rfl,tN,hN n hd.1⟩
   ·cases hw;cases hx;exact⟨aS,iS,rfl,tS,hS _ hd.2⟩
   ·cases hw
  | eI r k =>
   rcases i with _ | i
   ·cases hw;cases hx;exact⟨aL,iL,rfl,tL,hL _ hd⟩
   ·cases hw
  | jQ ns =>
   have hw:(ns.map cQ)[i]?=some w:=hw;have hx:(ns.map iN)[i]?=some x:=hx;rw[dP]at hw hx
   cases e:ns[i]? with
   | none=>rw[e]at hw;cases hw
   | some n =>
    rw[e]at hw hx;cases hw;cases hx;refine⟨aN,Oq,?_,tN,hN n (hd.2.2 n (eL e))⟩;show(if i<1 then [aN][i]? else some aN)=some aN
    cases i with
    | zero=>rfl
    | succ i=>exact aR ∅
  | jo ms li ws =>
   rcases i with _|_ | i
   ·cases hw;cases hx;exact⟨aNs,Pr,rfl,TQ,TR _ hd.1⟩
   ·cases hw;cases hx;exact⟨aNs,Pr,rfl,TQ,TR _ hd.2.1⟩
   ·have hw:(ws.map lp)[i]?=some w:=hw;have hx:(ws.map mz)[i]?=some x:=hx;rw[dP]at hw hx
    cases e:ws[i]? with
    | none=>rw[e]at hw;cases hw
    | some n =>
     rw[e]at hw hx;cases hw;cases hx;refine⟨aW,iW,?_,tW,hW n (hd.2.2.2 n (eL e))⟩;exact aR (show ¬i+1+1<2 by omega)
 refine(hV M0 v d.nm d.ws d.vs _ _ w0 bu Ss ∅ EE).imp ?_;rintro r M1 ⟨u,rfl,u1,hu,g1⟩;have f1:=Ex.trans f0 g1;clear EE bu Ss;nofun;by_cases q1:∃r k,d=.eI r k
 ·obtain⟨r,k,rfl⟩:=q1;have u1:M1[u]?=some (.lst [nP (r,k)]):=u1;rw[bT (Dd.d4 hd) eu,show((Dd.eI r k).nm == "come")=true from fw _];nofun;rw[eo u1 (by decide) (x:=nP (r,k)) rfl];nofun;rw[eo u1 (by decide) (x:=nP (r,k)) rfl];nofun;exact⟨af (bW rfl),_,rfl,rfl,f1⟩
 by_cases q2:∃ps,d=.jQ ps
 ·obtain⟨ps,rfl⟩:=q2;have u1:M1[u]?=some (.lst (ps.map iN)):=u1;rw[bT (Dd.d4 hd) eu,show((Dd.jQ ps).nm == "come")=false from (⋯:(("throw" : Str) == "come")=false)];nofun;rw[bT (Dd.d4 hd) jd,show((Dd.jQ ps).nm == "throw")=true from fw _];nofun;rw[jb u1];nofun;exact⟨af (bW rfl),_,rfl,rfl,f1⟩
 by_cases q3:∃a b c,d=.jo a b c
 ·obtain⟨ms,li,ws,rfl⟩:=q3;have u1:M1[u]?=some (.lst (.tup (ms.map iN)::.tup (li.map iN)::ws.map mz)):=u1;rw[bT (Dd.d4 hd) eu,show((Dd.jo ms li ws).nm == "come")=false from (⋯:(("fall" : Str) == "come")=false)];nofun;rw[bT (Dd.d4 hd) jd,show((Dd.jo ms li ws).nm == "throw")=false from (⋯:(("fall" : Str) == "throw")=false)];nofun;rw[bT (Dd.d4 hd) fm,show((Dd.jo ms li ws).nm == "fall")=true from fw _];nofun;rw[eo u1 (by decide) (x:=.tup (ms.map iN)) rfl];nofun;rw[eo u1 (by decide) (x:=.tup (li.map iN)) rfl];nofun
  have sl:kh (.d (.aX u)) (some 2) none M1=.ok (.lv (ws.map mz)) M1:=by
   unfold kh bL;simp only[u1]
   have:cutD (.tup (ms.map iN)::.tup (li.map iN)::ws.map mz) (some 2) none=ws.map mz:=by
    have e2:(2:Int)=((2:Nat):Int):=rfl;unfold cutD;rw[e2,HT.Ax,HT.xt,iH,iH,Nat.min_eq_left ∅,ER,ER,List.drop_zero,show(ws.map mz).length+1+1-2=(ws.map mz).length by omega,mD]
   rw[this]
  rw[sl];nofun;exact⟨af (bW rfl),_,rfl,⟨_,rfl,bB⟩,f1.app⟩
 ·have hx:d.at M1 (.tup (.str d.nm::d.vs)):=by
   cases d with
   | eI r k=>exact absurd ⟨r,k,rfl⟩ q1
   | jQ ps=>exact absurd ⟨ps,rfl⟩ q2
   | jo a b c=>exact absurd ⟨a,b,c,rfl⟩ q3
   | _=>rfl
  obtain⟨a,b,r,ps,ex,hr,⟨h0,h1,h2,h3⟩,_⟩:=Dd.Sw hd hx (λr k e=>q1 ⟨r,k,e⟩) (λps e=>q2 ⟨ps,e⟩) λa b c e=>q3 ⟨a,b,c,e⟩
  have Hi:d.vs.length<=2:=by
   have:=D.tup.inj ex;rw[(vt this).2,iH];omega
  rw[bT h0 eu,h1];nofun;rw[bT h0 jd,h2];nofun;rw[bT h0 fm,h3];nofun;refine⟨af (bW rfl),?_⟩;nofun;rw[jb u1];nofun;exact⟨af (by show 1+d.vs.length<=1000;omega),_,rfl,hx,f1⟩
noncomputable def Al(M:ab):Nat->D->D->Prop
 | _,.int i,.int j=>i=j
 | _,.str a,.str b=>a=b/\PyData.strOk a=true
 | n+1,.tup xs,.tup ys=>xs.length=ys.length/\xs.length<=900/\∀(i:Nat) x y,xs[i]?=some x->ys[i]?=some y->Al M n x y
 | n+1,.aX a,.aX b=>∃xs ys,M[a]?=some (.lst xs)/\M[b]?=some (.lst ys)/\xs.length=ys.length/\xs.length<=900/\∀(i:Nat) x y,xs[i]?=some x->ys[i]?=some y->Al M n x y
 | _,_,_=>False
theorem Al.ex{M M':ab}(g:Ex M M'):∀{n:Nat}{x y:D},Al M n x y->Al M' n x y:=by
 intro n
 induction n with
 | zero =>
  intro x y h;cases x<;>cases y<;>first | exact h.elim | exact h
 | succ n ih =>
  intro x y h;cases x<;>cases y<;>first | exact h.elim | skip
  ·exact h
  ·exact h
  ·exact⟨h.1,h.2.1,λi x y e1 e2=>ih (h.2.2 i x y e1 e2)⟩
  ·obtain⟨xs,ys,h1,h2,h3,h4,h5⟩:=h;exact⟨xs,ys,Ex.get g h1,Ex.get g h2,h3,h4,λi x y e1 e2=>ih (h5 i x y e1 e2)⟩
def qS(n:Nat)(F:Fn):Prop:=∀(M:ab)(x y:D),Al M n x y->aK (F [x,y] M) λr M'=>r=.d (.bl true)/\Ex M M'
theorem zq{xs ys:List D}{i:Nat}{d:D}(h:(List.zipWith (λa b=>D.tup [a,b]) xs ys)[i]?=some d):∃x y,xs[i]?=some x/\ys[i]?=some y/\d=.tup [x,y]:=by
 rw[EN]at h
 cases e1:xs[i]? with
 | none=>rw[e1]at h;cases h
 | some x =>
  cases e2:ys[i]? with
  | none=>rw[e1,e2]at h;cases h
  | some y=>rw[e1,e2]at h;cases h;exact⟨x,y,rfl,rfl,rfl⟩
theorem zr{M:ab}{a b:Nat}{xs ys:List D}(h1:M[a]?=some (.lst xs))(h2:M[b]?=some (.lst ys))(i:Nat):itemAt M i (.zip (.at a) (.at b))=some (List.zipWith (λa b=>D.tup [a,b]) xs ys)[i]?:=by
 unfold itemAt lR;simp only[h1,h2];show some (jk xs ys i)=_;unfold jk;rw[EN];cases xs[i]? <;> cases ys[i]? <;> rfl
theorem Cg{M:ab}{xs ys:List D}(i:Nat):itemAt M i (.zip (.items xs) (.items ys))=some (List.zipWith (λa b=>D.tup [a,b]) xs ys)[i]?:=by
 show some (jk xs ys i)=_;unfold jk;rw[EN];cases xs[i]? <;> cases ys[i]? <;> rfl
theorem Ot{M:ab}{a b:Nat}{xs ys:List D}(h1:M[a]?=some (.lst xs))(h2:M[b]?=some (.lst ys)):fF .zip [.d (.aX a),.d (.aX b)] M=.ok (.zip (.at a) (.at b)) M:=by
 unfold fF DZ bL;simp only[h1,h2];rfl
theorem Ch{M:ab}{a:Nat}{xs:List D}(h:M[a]?=some (.lst xs)):oP (.d (.aX a)) M=.ok (.d (.bl true)) M:=by
 unfold oP qk;simp only[h];rfl
theorem sZ{M:ab}{a:Nat}{t:Ty}{xs:List D}(h:M[a]?=some (.lst xs)):ic (.iT t) [.d (.aX a)] M=.ok (.d (.bl (decide (Ty.list=t)||(decide (Ty.list=.bool)&&decide (t=.int))))) M:=by
 unfold ic qk;simp only[h]
theorem TV{G:bf}{k n:Nat}(h:∀m,n=m+1->qS m (G k)):qS n (aq G 3 (gy k)):=by
  intro M x y zt;rw[b_];show fv G (gy k) [some x,some y,none] M _ _ _ _;unfold gy
  have all : ∀ (m : Nat) (xs ys : List D) (it : It) (K : Nat) (ρ : En), n = m + 1 -> ρ = [some x, some y, some (.bl true)] -> xs.length = ys.length -> xs.length <= 900 -> (∀ (i : Nat) x y, xs[i]? = some x -> ys[i]? = some y -> Al M m x y) -> (∀ M', Ex M M' -> ∀ i, itemAt M' i it = some (List.zipWith (fun a b => D.tup [a, b]) xs ys)[i]?) -> K = (List.zipWith (fun a b => D.tup [a, b]) xs ys).length ->
      aK (a8 (λτ M=>bq G none τ M) (λτ M=>(ev G (.call k [(.jC 1),(.jC 2)]) τ M).bind own) it [1,2] K 0 [none,none,none] M []) λw M1=>cz (ic .all1 [w] M1) λr M'=>r=.d (.bl true)/\Ex M M':=by
    intro m xs ys it K ρ hn _ hl h9 hA m9 hK;refine k_ (ds:=List.zipWith (λa b=>D.tup [a,b]) xs ys) (λi M' aB=>Ex M M'/\aB.length<=i/\∀d∈aB,d=.bl true) (by decide) (λi M' aB h hi=>m9 M' h.1 i) ⟨Ex.refl M,a6 _,λd m=>by cases m⟩ ?_ ?_ hK
    · rintro i M' aB d hd ⟨g,XF,hb⟩;have hi:=(eU.mp hd).1;rw[ES]at hi;obtain⟨x,y,e1,e2,rfl⟩:=zq hd;refine⟨bS ∅,?_⟩;nofun;refine(h m hn M' x y (Al.ex g (hA i x y e1 e2))).imp ?_;rintro r M2 ⟨rfl,g2⟩;nofun;exact⟨Ex.trans g g2,by rw[eW];show _+1<=_;omega,λd m=>(gW.mp m).elim (hb d) λz=>jr.mp z⟩
    · rintro M' aB ⟨g,_,hb⟩;rw[sP hb];exact⟨rfl,g⟩
  have Ly:∀a b:Nat,a=b->(!(((a:Nat):Int)==((b:Nat):Int)))=false:=λa b e=>by rw[e,fw];rfl
  cases y with
  | int j =>
    cases x<;>first | (cases n<;>exact zt.elim) | skip
    rename_i i
    have e:i=j:=by cases n<;>exact zt
    subst e;nofun;rw[fw];exact⟨rfl,Ex.refl M⟩
  | str b =>
    cases x<;>first | (cases n<;>exact zt.elim) | skip
    rename_i a
    have e:a=b/\PyData.strOk a=true:=by cases n<;>exact zt
    obtain⟨rfl,e⟩:=e;nofun;rw[y4 e e,fw];exact⟨rfl,Ex.refl M⟩
  | tup ys =>
    cases n with
    | zero=>cases x<;>exact zt.elim
    | succ m =>
      cases x<;>first | exact zt.elim | skip
      rename_i xs
      obtain⟨h1,h2,h3⟩:=zt;nofun;rw[Ly _ _ h1];nofun;exact all m xs ys _ _ _ rfl rfl h1 h2 h3 (λM' g i=>Cg i) (by show min xs.length ys.length=_;rw[ES])
  | aX b =>
    cases n with
    | zero=>cases x<;>exact zt.elim
    | succ m =>
      cases x<;>first | exact zt.elim | skip
      rename_i a
      obtain⟨xs,ys,ha,hb,h1,h2,h3⟩:=zt;nofun;rw[Ch hb];nofun;rw[sZ hb];nofun;rw[sZ ha];nofun;rw[iB ha];nofun;rw[iB hb];nofun;rw[Ly _ _ h1];nofun;rw[Ot ha hb];nofun
      exact all m xs ys _ _ _ rfl rfl h1 h2 h3 (λM' g i=>zr (Ex.get g ha) (Ex.get g hb) i) (by
        show bZ M (.zip (.at a) (.at b))=_;unfold bZ lR;simp only[ha,hb,ES])
  | _=>cases n<;>cases x<;>exact zt.elim
theorem zu{Fs:List Fn}{k:Nat}(hk:Fs.length=k):∀n,qS n (pj Fs 3 (gy k) (n+1))
 | 0=>by
  show qS 0 (aq (cf (Fs++[pj Fs 3 (gy k) 0])) 3 (gy k));exact TV λm e=>nomatch e
 | n+1=>by
  show qS (n+1) (aq (cf (Fs++[pj Fs 3 (gy k) (n+1)])) 3 (gy k));refine TV λm e=>?_;cases e
  have:cf (Fs++[pj Fs 3 (gy k) (n+1)]) k=pj Fs 3 (gy k) (n+1):=by
   funext ds M;unfold cf;rw[<- hk];simp
  rw[this];exact zu hk n
theorem gT{M:ab}{n:Nat}{i:Int}:Al M n (.int i) (.int i):=by cases n<;>rfl
theorem je{M:ab}{n:Nat}{a:Str}(h:PyData.strOk a=true):Al M n (.str a) (.str a):=by cases n<;>exact⟨rfl,h⟩
theorem fP{M:ab}{n:Nat}{xs:List D}(hl:xs.length<=900)(h:∀x∈xs,Al M n x x):Al M (n+1) (.tup xs) (.tup xs):=⟨rfl,hl,λi x y e1 e2=>by rw[e1]at e2;cases e2;exact h x (eL e1)⟩
theorem nK{M:ab}{n:Nat}{ns:List Nat}(h:ns.length<=900):Al M (n+1) (.tup (ns.map iN)) (.tup (ns.map iN)):=fP (by rw[aV];exact h) λx m=>by obtain⟨k,_,rfl⟩:=dD.mp m;exact gT
theorem Ou{M:ab}{n:Nat}{p:Nat×Nat}:Al M (n+1) (nP p) (nP p):=fP (show 2<=900 by decide) λx m=>by
 simp only[bF,gV,gD]at m;rcases m with rfl | rfl<;>exact gT
theorem Ov{M:ab}{n:Nat}{w:Nat×List (Nat×Nat)}(h:zj w):Al M (n+3) (mz w) (mz w):=fP (show 2<=900 by decide) λx m=>by
 simp only[bF,gV,gD]at m;rcases m with rfl | rfl
 ·exact gT
 ·exact fP (by rw[aV];have:=h.2.2.1;omega) λx m=>by obtain⟨p,_,rfl⟩:=dD.mp m;exact Ou
theorem Ci{M:ab}{d:Dd}{x y:D}(h:d.ok)(hx:d.at M x)(hy:d.at M y):Al M 8 x y:=by
 cases d with
 | pl nm ns =>
  obtain rfl:x=_:=hx;obtain rfl:y=_:=hy;have hl:ns.length<=2:=by rcases h.1 with⟨_,z⟩|⟨_,z⟩<;>omega
  refine fP (by rw[iH,aV];omega) λx m=>?_;rcases bF.mp m with rfl | m
  ·exact je (fi (Dd.d4 h))
  ·obtain⟨k,_,rfl⟩:=dD.mp m;exact gT
 | gR n c =>
  obtain rfl:x=_:=hx;obtain rfl:y=_:=hy;refine fP (show 3<=900 by decide) λx m=>?_;simp only[bF,gV,gD]at m;rcases m with rfl | rfl | rfl
  ·exact je (fi (Dd.d4 h))
  ·exact gT
  ·exact je (sU h.2).1.so
 | eI r k =>
  obtain rfl:x=_:=hx;obtain rfl:y=_:=hy;refine fP (show 3<=900 by decide) λx m=>?_;simp only[bF,gV,gD]at m;rcases m with rfl | rfl | rfl
  ·exact je (fi (Dd.d4 h))
  ·exact gT
  ·exact gT
 | jQ ps =>
  obtain rfl:x=_:=hx;obtain rfl:y=_:=hy;refine fP (show 2<=900 by decide) λx m=>?_;simp only[bF,gV,gD]at m;rcases m with rfl | rfl
  ·exact je (fi (Dd.d4 h))
  ·exact nK (by have:=h.2.1;omega)
 | jo ms li ws =>
  obtain⟨a,rfl,ha⟩:=hx;obtain⟨b,rfl,hb⟩:=hy;refine⟨rfl,show 4<=900 by decide,λi x y e1 e2=>?_⟩;rcases i with _|_|_|_ | i
  ·cases e1;cases e2;exact je (fi (Dd.d4 h))
  ·cases e1;cases e2;exact nK (by have:=h.1.2.1;omega)
  ·cases e1;cases e2;exact nK (by have:=h.2.1.2.1;omega)
  ·cases e1;cases e2;refine⟨_,_,ha,hb,rfl,by rw[aV];have:=h.2.2.1;omega,λi x y e1 e2=>?_⟩;rw[e1]at e2;cases e2;obtain⟨w,hw,rfl⟩:=dD.mp (eL e1);exact Ov (h.2.2.2 w hw)
  ·cases e1
section
variable {M:ab} {n:Nat} {ds:List D} {i:Int} {x:D}
theorem Ow{P:D->Prop}{k:Nat}(h:∀d∈ds,P d)(h0:0<=i)(h1:i<k)(hk:k=ds.length):∃d,ds[i.toNat]?=some d/\P d:=by
 have hl:i.toNat<ds.length:=∅;exact⟨ds[i.toNat],jq hl,h _ (List.getElem_mem hl)⟩
end
section
variable {M:ab} {n:Nat} {ds:List D} {i:Int} {x:D}
abbrev iD(ks:List Int):List D:=ks.map D.int
theorem s_{k:Nat}:∀(ks:List Int),dh M k (iD ks)=some (ks.map PyData.int)
 | []=>by show dh M k []=_;unfold dh;rfl
 | i::ks=>by
  show dh M k (.int i::iD ks)=_;unfold dh;have:fU M k (.int i)=some (.int i):=by cases k<;>(unfold fU;rfl)
  rw[this,s_ ks];rfl
end
theorem Ox{ds:List D}(h:ds.length<=63):cutD ds none (some 63)=ds:=by
 unfold cutD;have e1:HT.cj ds.length 0 none=0:=rfl
 have e2:HT.cj ds.length ds.length (some 63)=ds.length:=by
  show(if (63:Int)<0 then ((63:Int)+(ds.length:Int)).toNat else min (63:Int).toNat ds.length)=ds.length;rw[aR (by decide)];have:(63:Int).toNat=63:=rfl;omega
 rw[e1,e2];simp
end Ev
end
section
namespace Ev
open PySem
noncomputable def qT:List S:=[.ret (.uZ ["cells","cell","drawn"] [(.bi .list1 [(.rM 0 none (some (.kn 63)))]),(.kn 0),(.kn 0)])]
noncomputable def qU:List S:=[.put 0 (.a_ (.str "drawn")) (.bin .mul (.kn 100) 1),.put 0 (.a_ (.str "cell")) (.kn 0),.iff (.val (.cmp .ne (.sub 0 (.a_ (.str "cells"))) (.lst []))) [.put 0 (.a_ (.str "cell")) (.sub (.sub 0 (.a_ (.str "cells"))) (.bin .mod 1 (.bi .len [(.sub 0 (.a_ (.str "cells")))])))] []]
noncomputable def qV:List S:=[.put 0 (.a_ (.str "drawn")) (.bin .add (.sub 0 (.a_ (.str "drawn"))) (.kn 1)),.asg [2] (.sub 0 (.a_ (.str "cell"))),.iff (.val (.cmp .ge 2 (.bin .pow (.kn 10) (.kn 18)))) [.put 0 (.a_ (.str "cell")) (.bin .fdiv 2 1),.ret (.bin .mod 2 1)] [],.asg [3] (.sub 0 (.a_ (.str "drawn"))),.asg [4] (.bin .mod (.bin .mul (.bin .add (.bin .mod 2 (.kn 2147483629)) (.kn 1)) (.bin .add (.bin .mul (.bin .mul (.kn 31) 3) 3) (.kn 7919))) (.kn 2147483647)),.ret (.bin .mod (.bin .mod (.bin .mul (.bin .add 4 3) (.kn 48271)) (.kn 2147483629)) 1)]
end Ev
end
section
namespace Ev
open L2
open PySem PySem.Spec PyProof.Rows
noncomputable def lA(c:Nat)(l t:Int):List (bG×D):=[(Sum.inr ("cells" : Str),.aX c),(Sum.inr ("cell" : Str),.int l),(Sum.inr ("drawn" : Str),.int t)]
def FG(M:ab)(w:Nat)(T:Int):Prop:=∃(c:Nat) (l t:Int) (ns:List Int),M[w]?=some (.dK (lA c l t))/\M[c]?=some (.lst (iD ns))/\c<w/\ns.length<=63/\0<=t/\t<=T
theorem FG.lt{M:ab}{w:Nat}{T:Int}(h:FG M w T):w<M.length:=by obtain⟨c,l,t,ns,h,_⟩:=h;exact cJ h
theorem FG.app{M X:ab}{w:Nat}{T:Int}(h:FG M w T):FG (M++X) w T:=by obtain⟨c,l,t,ns,h,k,q⟩:=h;exact⟨c,l,t,ns,fY h,fY k,q⟩
theorem FG.mono{M:ab}{w:Nat}{T T2:Int}(h:FG M w T)(k:T<=T2):FG M w T2:=by obtain⟨c,l,t,ns,h1,h2,h3,h4,h5,h6⟩:=h;exact⟨c,l,t,ns,h1,h2,h3,h4,h5,Int.le_trans h6 k⟩
theorem FG.ex{M M1:ab}{w:Nat}{T:Int}(h:FG M w T)(f:Ex M M1):FG M1 w T:=by obtain⟨c,l,t,ns,h1,h2,h3,q⟩:=h;exact⟨c,l,t,ns,Ex.get f h1,Ex.get f h2,h3,q⟩
theorem FG.set{M:ab}{w v:Nat}{T:Int}{o:MO}(h:FG M w T)(k:w<v):FG (M.set v o) w T:=by obtain⟨c,l,t,ns,h1,h2,h3,q⟩:=h;exact⟨c,l,t,ns,dJ h1 ∅,dJ h2 ∅,h3,q⟩
section
variable {M:ab} {w c:Nat} {l t:Int}
theorem Sy(h:M[w]?=some (.dK (lA c l t))):dw (.d (.aX w)) (.d (.str "cells")) M=.ok (.d (.aX c)) M:=by unfold dw;simp only[h];rfl
theorem V7(h:M[w]?=some (.dK (lA c l t))):dw (.d (.aX w)) (.d (.str "cell")) M=.ok (.d (.int l)) M:=by unfold dw;simp only[h];rfl
theorem TX(h:M[w]?=some (.dK (lA c l t))):dw (.d (.aX w)) (.d (.str "drawn")) M=.ok (.d (.int t)) M:=by unfold dw;simp only[h];rfl
theorem Sz(h:M[w]?=some (.dK (lA c l t)))(i:Int):ik (.d (.aX w)) (.d (.str "cell")) (.int i) M=.ok () (M.set w (.dK (lA c i t))):=by
 unfold ik;simp only[h];rw[aG (bS (bW rfl))];rfl
theorem TY(h:M[w]?=some (.dK (lA c l t)))(i:Int):ik (.d (.aX w)) (.d (.str "drawn")) (.int i) M=.ok () (M.set w (.dK (lA c l i))):=by
 unfold ik;simp only[h];rw[aG (bS (bW rfl))];rfl
end
def jf(F:Fn):Prop:=∀(M:ab)(w:Nat)(T many:Int),FG M w T->T<2 ^ 40->0<many->many<1073741824->aK (F [.aX w,.int many] M) λr M'=>∃i,r=.d (.int i)/\0<=i/\i<many/\FG M' w (T+1)/\Fr w M M'
theorem IV{G:bf}:jf (aq G 5 qV):=by
 intro M w T many hw hT hm Pf;obtain⟨c,l,t,ns,hw,hc,Oy,j9,ht,V8⟩:=hw;rw[b_];show fv G qV [some (.aX w),some (.int many),none,none,none] M _ _ _ _;have h1:(M.set w (.dK (lA c l (t+1))))[w]?=some (.dK (lA c l (t+1))):=dq hw;have c1:(M.set w (.dK (lA c l (t+1))))[c]?=some (.lst (iD ns)):=dJ hc ∅;have f1:Fr w M (M.set w (.dK (lA c l (t+1)))):=(Fr.refl w M).y2;nofun;rw[TX hw];nofun;rw[TY hw];generalize M.set w (.dK (lA c l (t+1)))=M1 at h1 c1 f1;nofun;rw[V7 h1];nofun;by_cases Jo:(10:Int) ^ Int.toNat 18<=l
 ·rw[gX Jo];have Jo:(1000000000000000000:Int)<=l:=Jo;nofun;refine⟨⟨hm,Pf⟩,?_⟩;nofun;rw[Sz h1];nofun;refine⟨hm,?_⟩;nofun;exact⟨_,rfl,vm _ ∅,vb _ hm,⟨c,l / many,t+1,ns,dq h1,dJ c1 ∅,Oy,j9,∅,∅⟩,f1.y2⟩
 ·rw[df Jo];nofun;rw[TX h1];have e1:0<=l % 2147483629:=vm _ (by decide);have e2:l % 2147483629<2147483629:=vb _ (by decide);nofun;refine⟨by decide,?_⟩;nofun;refine⟨.inl ⟨by decide,by decide⟩,?_⟩;nofun;refine⟨.inr ⟨∅,∅⟩,?_⟩;nofun;refine⟨.inl ⟨∅,∅⟩,?_⟩;nofun;refine⟨by decide,?_⟩;generalize hx:(l % 2147483629+1)*(31*(t+1)*(t+1)+7919) % 2147483647=x;have x1:0<=x:=by rw[<- hx];exact vm _ (by decide)
  have x2:x<2147483647:=by rw[<- hx];exact vb _ (by decide)
  nofun;refine⟨.inr ⟨by decide,by decide⟩,?_⟩;nofun;refine⟨by decide,?_⟩;nofun;refine⟨hm,?_⟩;nofun;exact⟨_,rfl,vm _ ∅,vb _ hm,⟨c,l,t+1,ns,h1,c1,Oy,j9,∅,∅⟩,f1⟩
theorem Cj{M:ab}{n:Nat}{ns:List Int}(hM:M[n]?=some (.lst (iD ns))):bM .ne (.d (.aX n)) (.lv []) M=.ok (!ns.isEmpty) M:=by
 have h1:nM M (.d (.aX n))=some (.list (ns.map PyData.int)):=by
  show fU M 30 (.aX n)=_;unfold fU;simp only[hM];rw[s_];rfl
 have h2:nM M (.lv [])=some (.list ([].map PyData.int)):=by show(dh M 30 []).map PyData.list=_;unfold dh;rfl
 unfold bM;simp only[h1,h2,PySem.W.shaped_ints ns,PySem.W.shaped_ints [],and_self,gY,PyData.eqv.eq_7]
 cases ns with
 | nil=>rw[tQ,PyData.eqvAll.eq_1];rfl
 | cons d ds =>
  have:PyData.eqvAll (PyData.int d::ds.map PyData.int) []=false:=by simp only[PyData.eqvAll]
  rw[cA,tQ,this];rfl
def qW(F:Fn):Prop:=∀(M:ab)(w:Nat)(T:Int)(k:Nat),FG M w T->k<=1000->aK (F [.aX w,.int (k:Nat)] M) λr M'=>r=.d .br/\FG M' w (100*(k:Nat))/\Fr w M M'
theorem IW{G:bf}:qW (aq G 2 qU):=by
 intro M w T k hw hk;obtain⟨c,l,t,ns,hw,hc,Oy,j9,ht,V8⟩:=hw;rw[b_];show fv G qU [some (.aX w),some (.int (k:Nat))] M _ _ _ _;nofun;refine⟨.inl ⟨by decide,by decide⟩,?_⟩;nofun;rw[TY hw];have h1:(M.set w (.dK (lA c l (100*((k:Nat):Int)))))[w]?=some (.dK (lA c l (100*((k:Nat):Int)))):=dq hw;have c1:(M.set w (.dK (lA c l (100*((k:Nat):Int)))))[c]?=some (.lst (iD ns)):=dJ hc ∅;have f1:Fr w M (M.set w (.dK (lA c l (100*((k:Nat):Int))))):=(Fr.refl w M).y2;generalize M.set w (.dK (lA c l (100*((k:Nat):Int))))=M1 at h1 c1 f1;nofun;rw[Sz h1];have h2:(M1.set w (.dK (lA c 0 (100*((k:Nat):Int)))))[w]?=some (.dK (lA c 0 (100*((k:Nat):Int)))):=dq h1;have c2:(M1.set w (.dK (lA c 0 (100*((k:Nat):Int)))))[c]?=some (.lst (iD ns)):=dJ c1 ∅;have f2:Fr w M (M1.set w (.dK (lA c 0 (100*((k:Nat):Int))))):=f1.y2;generalize M1.set w (.dK (lA c 0 (100*((k:Nat):Int))))=M2 at h2 c2 f2;nofun;rw[Sy h2];nofun;refine⟨af (bW rfl),?_⟩;nofun;rw[Cj c2]
 cases q:ns.isEmpty with
 | true =>
  nofun;exact⟨rfl,⟨c,0,_,ns,h2,c2,Oy,j9,∅,∅⟩,f2⟩
 | false =>
  have hp:0<ns.length:=by cases ns with
   | nil=>cases q
   | cons _ _=>rw[iH];omega
  have XG:(iD ns).length=ns.length:=aV _;have V9:0<=((k:Nat):Int) % ((iD ns).length:Int):=vm _ ∅;have XH:((k:Nat):Int) % ((iD ns).length:Int)<((iD ns).length:Int):=vb _ ∅;have GS:(((k:Nat):Int) % ((iD ns).length:Int)).toNat<ns.length:=∅
  have hg:(iD ns)[(((k:Nat):Int) % ((iD ns).length:Int)).toNat]?=some (.int ns[(((k:Nat):Int) % ((iD ns).length:Int)).toNat]):=by
   rw[dP,jq GS];rfl
  generalize ns[(((k:Nat):Int) % ((iD ns).length:Int)).toNat]=cell at hg;nofun;rw[Sy h2];nofun;rw[Sy h2];nofun;rw[iB c2];nofun;refine⟨∅,?_⟩;nofun;rw[eo c2 V9 hg];nofun;rw[Sz h2];nofun;exact⟨rfl,⟨c,cell,_,ns,dq h2,dJ c2 ∅,Oy,j9,∅,∅⟩,f2.y2⟩
def qX(F:Fn):Prop:=∀(M:ab)(ns:List Int),ns.length<=63->aK (F [.ls (iD ns)] M) λr M'=>∃n,r=.d (.aX n)/\FG M' n 0/\Ex M M'
theorem IY{G:bf}:qX (aq G 1 qT):=by
 intro M ns j9;rw[b_];show fv G qT [some (.ls (iD ns))] M _ _ _ _;nofun;rw[Ox (by rw[aV];exact j9)];have e:(M++[MO.lst (iD ns)]).length=M.length+1:=by rw[eW];rfl
 exact⟨rfl,_,rfl,⟨M.length,0,0,ns,bB,fY bB,∅,j9,Int.le_refl _,Int.le_refl _⟩,Fr.app (Fr.app (Fr.refl _ _))⟩
def N9(d:D):Prop:=∃n:Nat,d=iN n/\n<10 ^ 9
theorem zv{i:Int}(h0:0<=i)(h1:i<10 ^ 9):N9 (.int i):=⟨i.toNat,by show D.int i=.int (i.toNat:Int);rw[Int.toNat_of_nonneg h0],∅⟩
def mC(F:Fn):Prop:=∀(M:ab)(w:Nat)(T:Int),FG M w T->T<2 ^ 39->aK (F [.aX w] M) λr M'=>∃n:Nat,r=.d (iN n)/\n<10 ^ 9/\FG M' w (T+4)/\Fr w M M'
theorem Oz{G:bf}{kG:Nat}(hD:jf (G kG)):mC (aq G 2 (qJ kG)):=by
 intro M w T hw hT;have DR:=hw.lt;rw[b_];show fv G (qJ kG) [some (.aX w),none] M _ _ _ _;unfold qJ;nofun;refine(hD M w _ 4 hw ∅ ∅ ∅).imp ?_;rintro r M1 ⟨i1,rfl,a1,b1,qY,f1⟩;nofun;refine(hD M1 w _ 120 qY ∅ ∅ ∅).imp ?_;rintro r M2 ⟨i2,rfl,a2,b2,jG,f2⟩;nofun;refine(hD M2 w _ 3 jG ∅ ∅ ∅).imp ?_;rintro r M3 ⟨i3,rfl,a3,b3,pP,f3⟩;nofun;refine⟨af (bW rfl),?_⟩;nofun;generalize hz:(10:Int) ^ Int.toNat 9-1-i3=z;have z1:(10:Int) ^ Int.toNat 9=1000000000:=by decide
 have xr:∀d∈[D.int i1,D.int i2,D.int z],N9 d:=λd m=>by
  simp only[bF,gV,gD]at m;rcases m with rfl | rfl | rfl
  ·exact zv a1 ∅
  ·exact zv a2 ∅
  ·exact zv ∅ ∅
 refine⟨af (bW rfl),?_⟩;nofun;have hv:(M3++[.lst [.int i1,.int i2,.int z]])[M3.length]?=some (.lst [.int i1,.int i2,.int z]):=bB;have u_:=pP.app (X:=[.lst [.int i1,.int i2,.int z]]);have f4:=((f1.trans f2).trans f3).app (X:=[.lst [.int i1,.int i2,.int z]]);have V_:w<M3.length:=pP.lt;generalize M3.length=v at hv V_;generalize M3++[.lst [.int i1,.int i2,.int z]]=M4 at hv u_ f4;refine(hD M4 w _ 4 u_ ∅ ∅ ∅).imp ?_;rintro r M5 ⟨i5,rfl,a5,b5,zN,f5⟩
 obtain⟨x,hx,Jm⟩:=Ow (P:=λd=>∃j:Int,d=.int j/\0<=j/\j<3) (ds:=[.int 0,.int 0,.int 1,.int 2]) (i:=i5) (k:=4) (λd m=>by
  simp only[bF,gV,gD]at m;rcases m with rfl | rfl | rfl | rfl
  ·exact⟨0,rfl,∅,∅⟩
  ·exact⟨0,rfl,∅,∅⟩
  ·exact⟨1,rfl,∅,∅⟩
  ·exact⟨2,rfl,∅,∅⟩) a5 b5 rfl
 obtain⟨j,rfl,j0,j3⟩:=Jm;nofun;rw[Iu a5 hx];obtain⟨y,hy,n,rfl,hn⟩:=Ow (P:=N9) (ds:=[.int i1,.int i2,.int z]) (i:=j) (k:=3) xr j0 j3 rfl;nofun;rw[eo (f5.get hv ∅) j0 hy];exact⟨n,rfl,hn,zN.mono ∅,f4.trans f5⟩
theorem IZ{G:bf}{kN:Nat}(hN:mC (G kN)){M:ab}{w n:Nat}{T:Int}{P:W->ab->Prop}(hw:FG M w T)(hT:T<2 ^ 38)(hn:n<=4)(he:∀(ns:List Nat) M',ns.length=n->(∀k∈ns,k<10 ^ 9)->FG M' w (T+16)->Fr w M M'->P (.lv (ns.map iN)) M'):aK (a8 (λτ M=>bq G none τ M) (λτ M=>(ev G (.call kN [(.jC 2)]) τ M).bind own) (.gZ 0 n) [1] (bZ M (.gZ 0 n)) 0 [none,none,some (.aX w)] M []) P:=by
 refine Es (λi M' aB=>∃ns:List Nat,aB=ns.map iN/\ns.length=i/\(∀k∈ns,k<10 ^ 9)/\FG M' w (T+4*(i:Nat))/\Fr w M M') (by decide) ⟨[],rfl,rfl,(λk m=>by cases m),hw.mono ∅,Fr.refl w M⟩ ?_ ?_
 ·rintro i M' aB hi ⟨ns,rfl,hl,hk,SA,f⟩;refine⟨bS (by rw[aV];omega),?_⟩;nofun;refine(hN M' w _ SA ∅).imp ?_;rintro r M2 ⟨m,rfl,hm,jG,f2⟩;nofun;refine⟨ns++[m],by rw[lG];rfl,by rw[eW,hl];rfl,λk q=>(gW.mp q).elim (hk k) λz=>by rw[jr.mp z];exact hm,jG.mono ∅,f.trans f2⟩
 ·rintro M' aB ⟨ns,rfl,hl,hk,SA,f⟩;exact he ns M' hl hk (SA.mono ∅) f
theorem zw{ns:List Nat}{i:Int}(h0:0<=i)(h4:i<4)(hl:ns.length=(1+i).toNat)(h:∀k∈ns,k<10 ^ 9):pG ns:=⟨λe=>by rw[e]at hl;simp at hl;omega,∅,h⟩
def zx(F:Fn):Prop:=∀(M:ab)(w:Nat)(T:Int),FG M w T->T<2 ^ 37->aK (F [.aX w] M) λr M'=>∃ps,r=.d (.tup [.str "throw",.tup (ps.map iN)])/\pG ps/\FG M' w (T+20)/\Fr w M M'
theorem OA{G:bf}{kG kN:Nat}(hD:jf (G kG))(hN:mC (G kN)):zx (aq G 1 (qK kG kN)):=by
 intro M w T hw hT;rw[b_];show fv G (qK kG kN) [some (.aX w)] M _ _ _ _;unfold qK;nofun;refine(hD M w _ 4 hw ∅ ∅ ∅).imp ?_;rintro r M1 ⟨i1,rfl,a1,b1,qY,f1⟩;nofun;refine⟨⟨∅,∅⟩,?_⟩;refine IZ hN qY ∅ ∅ λns M2 hl hk jG f2=>?_;nofun;exact⟨af (bW rfl),ns,rfl,zw a1 b1 hl hk,jG.mono ∅,f1.trans f2⟩
def zy(F:Fn):Prop:=∀(M:ab)(w:Nat)(T:Int),FG M w T->T<2 ^ 37->aK (F [.aX w] M) λr M'=>∃ms li ws n,r=.d (.tup [.str "fall",.tup (ms.map iN),.tup (li.map iN),.aX n])/\M'[n]?=some (.lst (ws.map mz))/\(Dd.jo ms li ws).ok/\FG M' w (T+200)/\Fr w M M'
theorem OB{G:bf}{kG kN:Nat}(hD:jf (G kG))(hN:mC (G kN)):zy (aq G 6 (qL kG kN)):=by
 intro M w T hw hT;have DR:=hw.lt;rw[b_];show fv G (qL kG kN) [some (.aX w),none,none,none,none,none] M _ _ _ _;unfold qL;nofun;refine⟨af (bW rfl),?_⟩;nofun;have v0:(M++[.lst []])[M.length]?=some (.lst []):=bB;have TZ:=hw.app (X:=[.lst []]);have f0:=(Fr.refl w M).app (X:=[.lst []]);generalize hv:M.length=v at v0;generalize M++[.lst []]=M0 at v0 TZ f0;refine(hD M0 w _ 4 TZ ∅ ∅ ∅).imp ?_;rintro r M1 ⟨i1,rfl,a1,b1,qY,f1⟩;have v1:=f1.get v0 ∅;have f1:=f0.trans f1;nofun;refine⟨⟨∅,∅⟩,?_⟩;refine y8 (λi ρ M'=>∃o2 o3 ws,ρ=[some (.aX w),some (.aX v),o2,o3,none,none]/\M'[v]?=some (.lst (ws.map mz))/\ws.length=i/\(∀x∈ws,zj x)/\FG M' w (T+1+40*(i:Nat))/\Fr w M M') ⟨none,none,[],rfl,v1,rfl,(λx m=>by cases m),qY.mono ∅,f1⟩ ?_ ?_
 ·rintro i ρ M2 hi ⟨o2,o3,ws,rfl,v2,hl,bc,jG,f2⟩;nofun;refine(hD M2 w _ 3 jG ∅ ∅ ∅).imp ?_;rintro r M3 ⟨i3,rfl,a3,b3,pP,f3⟩;have v3:=f3.get v2 ∅;nofun;refine⟨⟨∅,∅⟩,?_⟩;refine Es (λj M' aB=>∃ps:List (Nat×Nat),aB=ps.map nP/\ps.length=j/\(∀p∈ps,pF p)/\FG M' w (T+2+40*(i:Nat)+8*(j:Nat))/\Fr w M3 M') (by decide) ⟨[],rfl,rfl,(λk m=>by cases m),pP.mono ∅,Fr.refl w M3⟩ ?_ ?_
  ·rintro j M4 aB hj ⟨ps,rfl,mR,SD,u_,f4⟩;refine⟨bS (by rw[aV];omega),?_⟩;nofun;refine(hN M4 w _ u_ ∅).imp ?_;rintro r M5 ⟨m5,rfl,Wa,zN,f5⟩;nofun;refine(hN M5 w _ zN ∅).imp ?_;rintro r M6 ⟨m6,rfl,SE,OC,f6⟩;nofun;refine⟨af (bW rfl),?_⟩;refine⟨ps++[(m5,m6)],by rw[lG];rfl,by rw[eW,mR];rfl,λp q=>(gW.mp q).elim (SD p) λz=>by rw[jr.mp z];exact⟨Wa,iI SE (by decide)⟩,OC.mono ∅,(f4.trans f5).trans f6⟩
  ·rintro M4 aB ⟨ps,rfl,mR,SD,u_,f4⟩;have v4:=f4.get v3 ∅;nofun;have p5:(M4++[.lst (ps.map nP)])[M4.length]?=some (.lst (ps.map nP)):=bB;have v5:(M4++[.lst (ps.map nP)])[v]?=some (.lst (ws.map mz)):=fY v4;have zN:=u_.app (X:=[.lst (ps.map nP)]);have f5:=(f3.trans f4).app (X:=[.lst (ps.map nP)]);have hq:w<M4.length:=u_.lt;have uK:v<M4.length:=cJ v4;generalize M4.length=u at p5 hq uK;generalize M4++[.lst (ps.map nP)]=M5 at p5 v5 zN f5;refine⟨k8 v5,?_⟩;nofun;refine(hN M5 w _ zN ∅).imp ?_;rintro r M6 ⟨m6,rfl,SE,OC,f6⟩;have v6:=f6.get v5 ∅;nofun;rw[jb (f6.get p5 ∅)];nofun;refine⟨af (bW rfl),?_⟩;nofun;rw[k7 v6 (bS (by rw[aV];omega))];nofun;refine⟨_,_,ws++[(m6,ps)],rfl,?_,by rw[eW,hl];rfl,λx q=>(gW.mp q).elim (bc x) λz=>by rw[jr.mp z];exact⟨SE,λe=>by have e:ps=[]:=e;rw[e]at mR;simp at mR;omega,by show ps.length<=3;omega,SD⟩,(OC.set ∅).mono ∅,((f2.trans f5).trans f6).set ∅⟩;rw[dq v6,lG];rfl
 ·rintro ρ M2 ⟨o2,o3,ws,rfl,v2,hl,bc,jG,f2⟩;nofun;refine(hD M2 w _ 4 jG ∅ ∅ ∅).imp ?_;rintro r M3 ⟨i3,rfl,a3,b3,pP,f3⟩;nofun;refine⟨⟨∅,∅⟩,?_⟩;refine IZ hN pP ∅ ∅ λms M4 ml mk u_ f4=>?_;nofun;refine(hD M4 w _ 4 u_ ∅ ∅ ∅).imp ?_;rintro r M5 ⟨i5,rfl,a5,b5,zN,f5⟩;nofun;refine⟨⟨∅,∅⟩,?_⟩;refine IZ hN zN ∅ ∅ λli M6 ll lk OC f6=>?_;nofun;refine⟨af (bW rfl),?_⟩;have g:=((f3.trans f4).trans f5).trans f6;exact⟨ms,li,ws,v,rfl,g.get v2 ∅,⟨zw a3 b3 ml mk,zw a5 b5 ll lk,∅,bc⟩,OC.mono ∅,f2.trans g⟩
def zA(F:Fn):Prop:=∀(M:ab)(w:Nat)(T:Int),FG M w T->T<2 ^ 36->aK (F [.aX w] M) λr M'=>∃d x,r=.d x/\d.ok/\Dd.at M' d x/\FG M' w (T+300)/\Fr w M M'
theorem OD{G:bf}{kG kT kF kN:Nat}(hD:jf (G kG))(Wb:zx (G kT))(hF:zy (G kF))(hN:mC (G kN)):zA (aq G 2 (qM kG kT kF kN)):=by
 intro M w T hw hT;rw[b_];show fv G (qM kG kT kF kN) [some (.aX w),none] M _ _ _ _;unfold qM;nofun;refine(hD M w _ 9 hw ∅ ∅ ∅).imp ?_;rintro r M1 ⟨i,rfl,a,b,qY,f1⟩;nofun;by_cases q0:i=0
 ·subst q0;nofun;refine(hF M1 w _ qY ∅).imp ?_;rintro r M2 ⟨ms,li,ws,n,e,hn,bc,jG,f2⟩;exact⟨_,_,e,bc,⟨n,rfl,hn⟩,jG.mono ∅,f1.trans f2⟩
 by_cases q1:i=1
 ·subst q1;nofun;refine(Wb M1 w _ qY ∅).imp ?_;rintro r M2 ⟨ps,e,bc,jG,f2⟩;exact⟨.jQ ps,_,e,bc,rfl,jG.mono ∅,f1.trans f2⟩
 rw[df (show ¬i<2 by omega)];nofun;by_cases q2:i=2
 ·subst q2;nofun;refine(hN M1 w _ qY ∅).imp ?_;rintro r M2 ⟨n,rfl,hn,jG,f2⟩;nofun;refine(hD M2 w _ 3 jG ∅ ∅ ∅).imp ?_;rintro r M3 ⟨j,rfl,aj,bj,pP,f3⟩;have:j=0\/j=1\/j=2:=∅;rcases this with rfl | rfl | rfl
  ·nofun;exact⟨af (bW rfl),.gR n "a",_,rfl,⟨hn,.inl rfl⟩,rfl,pP.mono ∅,(f1.trans f2).trans f3⟩
  ·nofun;exact⟨af (bW rfl),.gR n "b",_,rfl,⟨hn,.inr (.inl rfl)⟩,rfl,pP.mono ∅,(f1.trans f2).trans f3⟩
  ·nofun;exact⟨af (bW rfl),.gR n "z",_,rfl,⟨hn,.inr (.inr rfl)⟩,rfl,pP.mono ∅,(f1.trans f2).trans f3⟩
 rw[lE.mpr q2];nofun;by_cases q3:i=3
 ·subst q3;nofun;refine(hN M1 w _ qY ∅).imp ?_;rintro r M2 ⟨n,rfl,hn,jG,f2⟩;nofun;refine(hN M2 w _ jG ∅).imp ?_;rintro r M3 ⟨k,rfl,hk,pP,f3⟩;nofun;refine⟨af (bW rfl),?_⟩;nofun;refine(hD M3 w _ 6 pP ∅ ∅ ∅).imp ?_;rintro r M4 ⟨j,rfl,aj,bj,u_,f4⟩;have f:=((f1.trans f2).trans f3).trans f4;nofun;by_cases z:j=0
  ·subst z;nofun;exact⟨af (bW rfl),.eI n 9999999999,_,rfl,⟨hn,(by decide:(9999999999:Nat)<10 ^ 10)⟩,rfl,u_.mono ∅,f⟩
  ·rw[lE.mpr z];nofun;exact⟨af (bW rfl),.eI n k,_,rfl,⟨hn,iI hk (by decide)⟩,rfl,u_.mono ∅,f⟩
 rw[lE.mpr q3];nofun;have one:∀(nm:Str)(n:Nat),nm = "own" \/ nm = "keep" -> n<10 ^ 9->(Dd.pl nm [n]).ok:=λnm n h hn=>⟨.inl ⟨h,rfl⟩,λk m=>by rw[jr.mp m];exact hn⟩
 have two:∀(nm:Str)(n k:Nat),nm = "note" \/ nm = "tell" -> n<10 ^ 9->k<10 ^ 9->(Dd.pl nm [n,k]).ok:=λnm n k h hn hk=>⟨.inr ⟨h,rfl⟩,λj m=>by
  simp only[bF,gV,gD]at m;rcases m with rfl | rfl
  ·exact hn
  ·exact hk⟩
 by_cases q4:i<6
 ·rw[gX q4];have:i=4\/i=5:=∅;rcases this with rfl | rfl
  ·nofun;refine⟨af (bW rfl),?_⟩;nofun;refine(hN M1 w _ qY ∅).imp ?_;rintro r M2 ⟨n,rfl,hn,jG,f2⟩;nofun;exact⟨af (bW rfl),.pl "own" [n],_,rfl,one _ n (.inl rfl) hn,rfl,jG.mono ∅,f1.trans f2⟩
  ·nofun;refine⟨af (bW rfl),?_⟩;nofun;refine(hN M1 w _ qY ∅).imp ?_;rintro r M2 ⟨n,rfl,hn,jG,f2⟩;nofun;exact⟨af (bW rfl),.pl "keep" [n],_,rfl,one _ n (.inr rfl) hn,rfl,jG.mono ∅,f1.trans f2⟩
 ·rw[df q4];have:i=6\/i=7\/i=8:=∅;rcases this with rfl | rfl | rfl
  all_goals
   nofun;refine⟨af (bW rfl),?_⟩;nofun;refine(hN M1 w _ qY ∅).imp ?_;rintro r M2 ⟨n,rfl,hn,jG,f2⟩;nofun;refine(hN M2 w _ jG ∅).imp ?_;rintro r M3 ⟨k,rfl,hk,pP,f3⟩;nofun
  ·exact⟨af (bW rfl),.pl "note" [n,k],_,rfl,two _ n k (.inl rfl) hn hk,rfl,pP.mono ∅,(f1.trans f2).trans f3⟩
  ·exact⟨af (bW rfl),.pl "tell" [n,k],_,rfl,two _ n k (.inr rfl) hn hk,rfl,pP.mono ∅,(f1.trans f2).trans f3⟩
  ·exact⟨af (bW rfl),.pl "tell" [n,k],_,rfl,two _ n k (.inr rfl) hn hk,rfl,pP.mono ∅,(f1.trans f2).trans f3⟩
end Ev
end
section
namespace eA
open Ev PySem
abbrev Fu:=List D->ab->bp W
abbrev c0(l:List Fu):=l
noncomputable def n0:List Str:=["thing"]
noncomputable def b0:List S:=[.ret (.dE [(.bi (.iT .str) [0]),(.cmp .eq (.bi .len [0]) (.kn 1)),(.chain .le .le (.a_ (.str "a")) 0 (.a_ (.str "z")))])]
def f0:Fu:=aq (cf (c0 [])) 1 b0
abbrev c1(l:List Fu):=c0 (f0::l)
noncomputable def n1:List Str:=["parts"]
def b1:List S:=[.ret (.qi " " (.comp .seq [0] [1] none (.bi .str1 [1]) [none,none]))]
def f1:Fu:=aq (cf (c1 [])) 1 b1
abbrev c2(l:List Fu):=c1 (f1::l)
noncomputable def n2:List Str:=["one","other"]
def b2:List S:=[.ret (.uz ":" 0 1)]
def f2:Fu:=aq (cf (c2 [])) 2 b2
abbrev c3(l:List Fu):=c2 (f2::l)
noncomputable def n3:List Str:=["road","k"]
def b3:List S:=[.ret (.uz "." 0 1)]
def f3:Fu:=aq (cf (c3 [])) 2 b3
abbrev c4(l:List Fu):=c3 (f3::l)
noncomputable def n4:List Str:=["parts"]
def b4:List S:=[.ret (.qi "," (.comp .seq [0] [1] none (.bi .str1 [1]) [none,none]))]
def f4:Fu:=aq (cf (c4 [])) 1 b4
abbrev c5(l:List Fu):=c4 (f4::l)
noncomputable def n5:List Str:=["deed","ways"]
def b5:List S:=[.iff (.val (.cmp .eq (.ks 0 0) (.a_ (.str "come")))) [.ret (.call 1 [(.lst [(.a_ (.str "come")),(.call 3 [(.ks 0 1),(.ks 0 2)])])])] [],.iff (.val (.cmp .eq (.ks 0 0) (.a_ (.str "throw")))) [.ret (.call 1 [(.bin .add (.tup [(.a_ (.str "throw"))]) (.ks 0 1))])] [],.iff (.val (.cmp .eq (.ks 0 0) (.a_ (.str "fall")))) [.i_ 1 (.comp .seq [(.ks 0 3)] [1,2] none (.call 2 [1,(.call 4 [(.comp .seq [2] [1,2] none (.call 3 [1,2]) [none,none,none])])]) [none,none,none]),.ret (.call 1 [(.bin .add (.lst [(.a_ (.str "fall")),(.call 4 [(.ks 0 1)]),(.call 4 [(.ks 0 2)])]) 1)])] [],.ret (.call 1 [0])]
def f5:Fu:=aq (cf (c5 [])) 2 b5
abbrev c6(l:List Fu):=c5 (f5::l)
noncomputable def n6:List Str:=["word","most"]
def b6:List S:=[.iff (.eF [(.neg (.val (.chain .le .le (.kn 1) (.bi .len [0]) 1))),(.neg (.val (.bi .all1 [(.comp .seq [0] [1] none (.cmp .MK 1 (.qj "FIGURES" "0123456789")) [none,none])])))]) [.never] [],.iff (.dE [(.val (.cmp .eq (.ks 0 0) (.a_ (.str "0")))),(.val (.cmp .ne 0 (.a_ (.str "0"))))]) [.never] [],.ret (.bi .jB [0])]
def f6:Fu:=aq (cf (c6 [])) 2 b6
abbrev c7(l:List Fu):=c6 (f6::l)
noncomputable def n7:List Str:=["word"]
noncomputable def b7:List S:=[.ret (.call 6 [0,(.uy "MOST_FIGURES" 9)])]
def f7:Fu:=aq (cf (c7 [])) 1 b7
abbrev c8(l:List Fu):=c7 (f7::l)
noncomputable def n8:List Str:=["word"]
noncomputable def b8:List S:=[.ret (.call 6 [0,(.uy "MOST_LONG_FIGURES" 10)])]
def f8:Fu:=aq (cf (c8 [])) 1 b8
abbrev c9(l:List Fu):=c8 (f8::l)
noncomputable def n9:List Str:=["word"]
def b9:List S:=[.iff (.neg (.val (.call 0 [0]))) [.never] [],.ret 0]
def f9:Fu:=aq (cf (c9 [])) 1 b9
abbrev OE(l:List Fu):=c9 (f9::l)
noncomputable def Wc:List Str:=["word","between","one_in","other_in","parts"]
noncomputable def T1:List S:=[.asg [4] (.lN true 0 1),.ret (.tup [(.cM 2 [(94,7),(101,8),(108,9)] [(.ks 4 0)]),(.cM 3 [(94,7),(101,8),(108,9)] [(.ks 4 2)])])]
def Wd:Fu:=aq (cf (OE [])) 5 T1
abbrev Ps(l:List Fu):=OE (Wd::l)
noncomputable def We:List Str:=["word"]
noncomputable def T3:List S:=[.ret (.call 10 [0,(.a_ (.str ".")),(.oK "number_in" 94),(.oK "long_in" 101)])]
def Wf:Fu:=aq (cf (Ps [])) 1 T3
abbrev Pt(l:List Fu):=Ps (Wf::l)
noncomputable def Wg:List Str:=["word"]
def T4:List S:=[.ret (.bi .tuple1 [(.comp .seq [(.lN false 0 (.a_ (.str ",")))] [1] none (.call 7 [1]) [none,none])])]
def Wh:Fu:=aq (cf (Pt [])) 1 T4
abbrev Pu(l:List Fu):=Pt (Wh::l)
noncomputable def Wi:List Str:=["word"]
def T5:List S:=[.ret (.bi .tuple1 [(.comp .seq [(.lN false 0 (.a_ (.str ",")))] [1] none (.call 11 [1]) [none,none])])]
def Wj:Fu:=aq (cf (Pu [])) 1 T5
abbrev OF(l:List Fu):=Pu (Wj::l)
noncomputable def Wk:List Str:=["word","between","one_in","other_in","parts"]
noncomputable def T6:List S:=[.asg [4] (.lN true 0 1),.ret (.tup [(.cM 2 [(94,7),(101,8),(108,9),(122,11),(127,12),(132,13)] [(.ks 4 0)]),(.cM 3 [(94,7),(101,8),(108,9),(122,11),(127,12),(132,13)] [(.ks 4 2)])])]
def Wl:Fu:=aq (cf (OF [])) 5 T6
abbrev Pw(l:List Fu):=OF (Wl::l)
noncomputable def Wm:List Str:=["word"]
noncomputable def T7:List S:=[.ret (.call 14 [0,(.a_ (.str ":")),(.oK "number_in" 94),(.oK "letters_in" 132)])]
def Wn:Fu:=aq (cf (Pw [])) 1 T7
abbrev OG(l:List Fu):=Pw (Wn::l)
noncomputable def Wo:List Str:=["words","readers","further","values","place","reader"]
def T8:List S:=[.asg [3] (.lst []),.gk [4] .rng2 [(.kn 1),(.bi .len [0])] [.asg [5] (.ite (.val (.cmp .le 4 (.bi .len [1]))) (.sub 1 (.bin .sub 4 (.kn 1))) 2),.iff (.val (.cmp .isN 5 (.a_ .br))) [.never] [],.jE false (.me .append 3 [(.cM 5 [(94,7),(101,8),(108,9),(122,11),(127,12),(132,13),(139,15)] [(.sub 0 4)])])],.iff (.val (.cmp .le (.bi .len [0]) (.bi .len [1]))) [.never] [],.ret 3]
def Wq:Fu:=aq (cf (OG [])) 6 T8
abbrev Px(l:List Fu):=OG (Wq::l)
noncomputable def Wr:List Str:=["text","words","name","values"]
def T9:List S:=[.asg [1] (.lN false 0 (.a_ (.str " "))),.asg [2] (.ks 1 0),.iff (.val (.lO "DEED_WORDS" [(("own" : Str),[94],none),(("hear" : Str),[94,108],none),(("come" : Str),[122],none),(("keep" : Str),[94],none),(("note" : Str),[94,94],none),(("tell" : Str),[94,94],none),(("throw" : Str),[94],some 94),(("fall" : Str),[127,127],some 139)] 2)) [.never] [],.asg [3] (.call 16 [1,(.sub (.ib "DEED_WORDS" [(("own" : Str),[94],none),(("hear" : Str),[94,108],none),(("come" : Str),[122],none),(("keep" : Str),[94],none),(("note" : Str),[94,94],none),(("tell" : Str),[94,94],none),(("throw" : Str),[94],some 94),(("fall" : Str),[127,127],some 139)] 2) (.kn 0)),(.sub (.ib "DEED_WORDS" [(("own" : Str),[94],none),(("hear" : Str),[94,108],none),(("come" : Str),[122],none),(("keep" : Str),[94],none),(("note" : Str),[94,94],none),(("tell" : Str),[94,94],none),(("throw" : Str),[94],some 94),(("fall" : Str),[127,127],some 139)] 2) (.kn 1))]),.iff (.val (.cmp .eq 2 (.a_ (.str "come")))) [.ret (.tup [(.a_ (.str "come")),(.sub (.ks 3 0) (.kn 0)),(.sub (.ks 3 0) (.kn 1))])] [],.iff (.val (.cmp .eq 2 (.a_ (.str "throw")))) [.ret (.tup [(.a_ (.str "throw")),(.bi .tuple1 [3])])] [],.iff (.val (.cmp .eq 2 (.a_ (.str "fall")))) [.ret (.tup [(.a_ (.str "fall")),(.ks 3 0),(.ks 3 1),(.rM 3 (some (.kn 2)) none)])] [],.ret (.bin .add (.tup [2]) (.bi .tuple1 [3]))]
def Ws:Fu:=aq (cf (Px [])) 4 T9
abbrev Py(l:List Fu):=Px (Ws::l)
noncomputable def Wt:List Str:=["_law_script"]
noncomputable def T_:List S:=qT
def Wu:Fu:=aq (cf (Py [])) 1 T_
abbrev Pz(l:List Fu):=Py (Wu::l)
noncomputable def Wv:List Str:=["_law_feed_here","_law_k"]
def Ua:List S:=qU
def Ww:Fu:=aq (cf (Pz [])) 2 Ua
abbrev PB(l:List Fu):=Pz (Ww::l)
noncomputable def Wx:List Str:=["_law_feed_here","_law_many","_law_cell","_law_turn","_law_mixed"]
noncomputable def Ub:List S:=qV
def Wy:Fu:=aq (cf (PB [])) 5 Ub
abbrev PC(l:List Fu):=PB (Wy::l)
noncomputable def Wz:List Str:=["_law_words"]
noncomputable def Uc:List S:=[.ret (.qi " " (.comp .seq [0] [1] none (.bi .str1 [1]) [none,none]))]
def WA:Fu:=aq (cf (PC [])) 1 Uc
abbrev PD(l:List Fu):=PC (WA::l)
noncomputable def WB:List Str:=["_law_things"]
def Ud:List S:=[.ret (.qi "," (.comp .seq [0] [1] none (.bi .str1 [1]) [none,none]))]
def WC:Fu:=aq (cf (PD [])) 1 Ud
abbrev PF(l:List Fu):=PD (WC::l)
noncomputable def WD:List Str:=["_law_deed","_law_ways","_law_machine","_law_way"]
noncomputable def Ue:List S:=[.iff (.val (.cmp .eq (.ks 0 0) (.a_ (.str "come")))) [.ret (.cat (.cat (.cat (.a_ (.str "come ")) (.bi .str1 [(.ks 0 1)])) (.a_ (.str "."))) (.bi .str1 [(.ks 0 2)]))] [],.iff (.val (.cmp .eq (.ks 0 0) (.a_ (.str "throw")))) [.ret (.call 21 [(.bin .add (.tup [(.a_ (.str "throw"))]) (.ks 0 1))])] [],.iff (.val (.cmp .ne (.ks 0 0) (.a_ (.str "fall")))) [.ret (.call 21 [0])] [],.asg [1] (.lst []),.gk [2,3] .seq [(.ks 0 3)] [.expr (.me .append 1 [(.cat (.cat (.bi .str1 [2]) (.a_ (.str ":"))) (.call 22 [(.comp .seq [3] [1,2] none (.cat (.cat (.bi .str1 [1]) (.a_ (.str "."))) (.bi .str1 [2])) [none,none,none])]))])],.ret (.call 21 [(.bin .add (.lst [(.a_ (.str "fall")),(.call 22 [(.ks 0 1)]),(.call 22 [(.ks 0 2)])]) 1)])]
def WE:Fu:=aq (cf (PF [])) 4 Ue
abbrev PH(l:List Fu):=PF (WE::l)
noncomputable def WG:List Str:=["_law_feed_here","_law_some"]
noncomputable def Ug:List S:=[.asg [1] (.lst [(.call 20 [0,(.kn 4)]),(.call 20 [0,(.kn 120)]),(.bin .sub (.bin .sub (.bin .pow (.kn 10) (.kn 9)) (.kn 1)) (.call 20 [0,(.kn 3)]))]),.ret (.sub 1 (.sub (.lst [(.kn 0),(.kn 0),(.kn 1),(.kn 2)]) (.call 20 [0,(.kn 4)])))]
def WH:Fu:=aq (cf (PH [])) 2 Ug
abbrev PJ(l:List Fu):=PH (WH::l)
noncomputable def WI:List Str:=["_law_feed_here"]
noncomputable def Uh:List S:=[.ret (.tup [(.a_ (.str "throw")),(.bi .tuple1 [(.comp .rng1 [(.bin .add (.kn 1) (.call 20 [0,(.kn 4)]))] [1] none (.call 24 [2]) [none,none,some 0])])])]
def WJ:Fu:=aq (cf (PJ [])) 1 Uh
abbrev PK(l:List Fu):=PJ (WJ::l)
noncomputable def WK:List Str:=["_law_feed_here","_law_ways","_law_k","_law_way","_law_machines","_law_line_here"]
noncomputable def Ui:List S:=[.asg [1] (.lst []),.gk [2] .rng1 [(.call 20 [0,(.kn 4)])] [.i_ 3 (.comp .rng1 [(.bin .add (.kn 1) (.call 20 [0,(.kn 3)]))] [1] none (.tup [(.call 24 [2]),(.call 24 [2])]) [none,none,some 0]),.expr (.me .append 1 [(.tup [(.call 24 [0]),(.bi .tuple1 [3])])])],.asg [4] (.bi .tuple1 [(.comp .rng1 [(.bin .add (.kn 1) (.call 20 [0,(.kn 4)]))] [1] none (.call 24 [2]) [none,none,some 0])]),.asg [5] (.bi .tuple1 [(.comp .rng1 [(.bin .add (.kn 1) (.call 20 [0,(.kn 4)]))] [1] none (.call 24 [2]) [none,none,some 0])]),.ret (.tup [(.a_ (.str "fall")),4,5,1])]
def WL:Fu:=aq (cf (PK [])) 6 Ui
abbrev PL(l:List Fu):=PK (WL::l)
noncomputable def WM:List Str:=["_law_feed_here","_law_way"]
noncomputable def Uj:List S:=[.asg [1] (.call 20 [0,(.kn 9)]),.iff (.val (.cmp .lt 1 (.kn 2))) [.ret (.ite (.val (.cmp .eq 1 (.kn 1))) (.call 25 [0]) (.call 26 [0]))] [],.iff (.val (.cmp .eq 1 (.kn 2))) [.ret (.tup [(.a_ (.str "hear")),(.call 24 [0]),(.sub (.a_ (.str "abz")) (.call 20 [0,(.kn 3)]))])] [],.iff (.val (.cmp .eq 1 (.kn 3))) [.ret (.tup [(.a_ (.str "come")),(.call 24 [0]),(.sub (.lst [(.call 24 [0]),(.bin .sub (.bin .pow (.kn 10) (.kn 10)) (.kn 1))]) (.bi .jB [(.cmp .eq (.call 20 [0,(.kn 6)]) (.kn 0))]))])] [],.iff (.val (.cmp .lt 1 (.kn 6))) [.ret (.tup [(.sub (.lst [(.a_ (.str "own")),(.a_ (.str "keep"))]) (.bin .sub 1 (.kn 4))),(.call 24 [0])])] [],.ret (.tup [(.sub (.lst [(.a_ (.str "note")),(.a_ (.str "tell")),(.a_ (.str "tell"))]) (.bin .sub 1 (.kn 6))),(.call 24 [0]),(.call 24 [0])])]
def WN:Fu:=aq (cf (PL [])) 2 Uj
abbrev OH(l:List Fu):=PL (WN::l)
noncomputable def WO:List Str:=["_law_found","_law_due","_law_kind"]
noncomputable def Uk:List S:=[.iff (.val (.u4 1)) [.asg [2] (.ite (.val (.bi (.iT .tuple) [1])) (.bi (.iT .tuple) [0]) (.bi (.iT .list) [0])),.iff (.eF [(.neg (.val 2)),(.val (.cmp .ne (.bi .len [0]) (.bi .len [1])))]) [.ret (.a_ (.bl false))] [],.ret (.bi .all1 [(.comp .zip [0,1] [1,2] none (.call 28 [1,2]) [none,none,none])])] [],.iff (.val (.bi (.iT .str) [1])) [.ret (.dE [(.bi (.iT .str) [0]),(.cmp .eq 0 1)])] [],.ret (.dE [(.bi (.iT .int) [0]),(.neg (.bi (.iT .bool) [0])),(.cmp .eq 0 1)])]
def WQ:Fu:=pj (OH []) 3 Uk 9
abbrev PM(l:List Fu):=OH (WQ::l)
noncomputable def WR:List Str:=["_law_script","_law_feed_here","_law_k","_law_deed","_law_text"]
noncomputable def OI:List S:=[.asg [1] (.call 18 [0]),.gk [2] .rng1 [(.kn 6)] [.expr (.call 19 [1,2]),.asg [3] (.call 27 [1]),.asg [4] (.call 5 [3]),.iff (.eF [(.neg (.val (.bi (.iT .str) [4]))),(.val (.cmp .ne 4 (.call 23 [3]))),(.neg (.val (.call 28 [(.call 17 [4]),3])))]) [.ret (.a_ (.bl false))] []],.ret (.a_ (.bl true))]
def OJ:Fu:=aq (cf (PM [])) 5 OI
noncomputable def gs:List (Str×Int):=[(("MOST_FIGURES" : Str),9),(("MOST_LONG_FIGURES" : Str),10)]
noncomputable def fs:List (Str×Nat):=[(("is_sign" : Str),1),(("in_blanks" : Str),1),(("pair_text" : Str),2),(("letter_text" : Str),2),(("in_commas" : Str),1),(("deed_text" : Str),1),(("figures_in" : Str),2),(("number_in" : Str),1),(("long_in" : Str),1),(("sign_in" : Str),1),(("pair_in" : Str),4),(("letter_in" : Str),1),(("numbers_in" : Str),1),(("letters_in" : Str),1),(("pair_in" : Str),4),(("way_in" : Str),1),(("values_in" : Str),3),(("read_deed" : Str),1),(("_law_feed" : Str),1),(("_law_open" : Str),2),(("_law_draw" : Str),2),(("_law_line" : Str),1),(("_law_commas" : Str),1),(("_law_deed_text" : Str),1),(("_law_number" : Str),1),(("_law_throw" : Str),1),(("_law_fall" : Str),1),(("_law_any_deed" : Str),1),(("_law_alike" : Str),2),(("law" : Str),1)]
end eA
end
section
namespace eA
open L2 Ev PySem PySem.Spec PyProof.Rows
theorem I0{G:bf}(OK:qX (G 18))(OL:qW (G 19))(SF:zA (G 27))(hT:Jn (G 5))(hL:Jn (G 23))(hR:qR (G 17))(hA:qS 8 (G 28))(ns:List Int)(j9:ns.length<=63):aK (aq G 5 OI [.ls (iD ns)] []) λr _=>r=.d (.bl true):=by
 rw[b_];show fv G OI [some (.ls (iD ns)),none,none,none,none] [] _ _ _ _;unfold OI;nofun;refine(OK [] ns j9).imp ?_;rintro r M0 ⟨n,rfl,hw,g⟩;nofun;refine⟨⟨by decide,by decide⟩,?_⟩;refine y8 (λi ρ M=>∃T o2 o3 o4,ρ=[some (.ls (iD ns)),some (.aX n),o2,o3,o4]/\FG M n T) ⟨_,none,none,none,rfl,hw⟩ ?_ ?_
 ·rintro i ρ M hi ⟨T,o2,o3,o4,rfl,hw⟩;have XJ:i<6:=hi;nofun;rw[show(0:Int)+(i:Nat)=((i:Nat):Int) by omega];refine(OL M n T i hw ∅).imp ?_;rintro r M1 ⟨rfl,qY,_⟩;nofun;refine(SF M1 n _ qY ∅).imp ?_;rintro r M2 ⟨d,x,rfl,hd,hx,jG,_⟩;nofun;refine(hT M2 d x hd hx).imp ?_;rintro r M3 ⟨rfl,g3⟩;nofun;refine(hL M3 d x hd (hx.ex g3)).imp ?_;rintro r M4 ⟨rfl,g4⟩;nofun;rw[y6 (zl hd).so (zl hd).so,fw];nofun;refine(hR M4 d hd).imp ?_;rintro r M5 ⟨y,rfl,hy,g5⟩;nofun;have g:=Ex.trans g3 (Ex.trans g4 g5);refine(hA M5 y x (Ci hd hy (hx.ex g))).imp ?_;rintro r M6 ⟨rfl,g6⟩;nofun;exact⟨_,_,_,_,rfl,jG.ex (Ex.trans g g6)⟩
 ·rintro ρ M ⟨T,o2,o3,o4,rfl,hw⟩;rfl
theorem zB:∀ns:List Int,ns.length<=63->∃M,OJ [.ls (ns.map D.int)] []=.ok (.d (.bl true)) M:=by
 intro ns j9;have h0:∀l,II (cf (c1 l) 0):=λl=>Si;have h1:∀l,uW " " (cf (c2 l) 1):=λl=>Pl;have h2:∀l,Oi ":" (cf (c3 l) 2):=λl=>TL;have h3:∀l,Oi "." (cf (c4 l) 3):=λl=>TL;have h4:∀l,uW "," (cf (c5 l) 4):=λl=>Pl;have h5:∀l,Jn (cf (c6 l) 5):=λl=>V5 (h1 _) (h3 _) (h2 _) (h4 _);have h6:∀l,Ca (cf (c7 l) 6):=λl=>Se;have h7:∀l,nJ 9 (cf (c8 l) 7):=λl=>Sg (h6 _);have h8:∀l,nJ 10 (cf (c9 l) 8):=λl=>Sh (h6 _);have h9:∀l,IJ (cf (OE l) 9):=λl=>Sj (h0 _);have Pm:∀l,pE (cf (OE [])) [(94,7),(101,8),(108,9)] (cf (Ps l) 10):=λl=>EB;have Ul:∀l,Po (cf (Pt l) 11):=λl=>V0 (Pm _) rfl rfl (h7 _) (h8 _);have WS:∀l,Sl (cf (Pu l) 12):=λl=>V1 (h7 _);have WT:∀l,Sm (cf (OF l) 13):=λl=>Sn (Ul _);have WU:∀l,pE (cf (OF [])) [(94,7),(101,8),(108,9),(122,11),(127,12),(132,13)] (cf (Pw l) 14):=λl=>EB;have Mc:∀l,So (cf (OG l) 15):=λl=>V2 (WU _) rfl rfl (h7 _) (WT _);have WV:∀l,Sr (cf (OG [])) [(94,7),(101,8),(108,9),(122,11),(127,12),(132,13),(139,15)] (cf (Px l) 16):=λl=>V3;have WW:∀l,qR (cf (Py l) 17):=λl=>IU (aN:=94) (aS:=108) (aL:=122) (aNs:=127) (aW:=139) (WV _) rfl rfl rfl rfl rfl (h7 _) (h9 _) (Ul _) (WS _) (Mc _);have Jo:∀l,qX (cf (Pz l) 18):=λl=>IY;have WX:∀l,qW (cf (PB l) 19):=λl=>IW;have PN:∀l,jf (cf (PC l) 20):=λl=>IV;have WY:∀l,uW " " (cf (PD l) 21):=λl=>Pl;have WZ:∀l,uW "," (cf (PF l) 22):=λl=>Pl;have W0:∀l,Jn (cf (PH l) 23):=λl=>Sx (WY _) (WZ _);have SG:∀l,mC (cf (PJ l) 24):=λl=>Oz (PN _);have W2:∀l,zx (cf (PK l) 25):=λl=>OA (PN _) (SG _);have W3:∀l,zy (cf (PL l) 26):=λl=>OB (PN _) (SG _);have W4:∀l,zA (cf (OH l) 27):=λl=>OD (PN _) (W2 _) (W3 _) (SG _);have W5:∀l,qS 8 (cf (PM l) 28):=λl=>zu (Fs:=OH []) (k:=28) rfl 8;obtain⟨r,M,e,q⟩:=HB (I0 (G:=cf (PM [])) (Jo _) (WX _) (W4 _) (h5 _) (W0 _) (WW _) (W5 _) ns j9);subst q;exact⟨M,e⟩
end eA
end
section
namespace eA
open L2 Ev PySem PySem.Spec PyProof.Rows
theorem W6{P:Params}{h:Heap}{mg:Str->Option Value}(X:(Kf P).In h)(G:h.Ns mainGlobals mg):∀b∈bI,mg b=none:=by
 have z:bI.all (λb=>match PySem.W.nsIn (Kf P) mainGlobals b with | some none=>true | _=>false)=true:=nofun;intro b hb;have q:=jT.mp z b hb;split at q
 ·rename_i e;exact PySem.W.mg_none_of X G e
 ·cases q
def xg:XI:=⟨[],[],[],[],[(("number_in" : Str),94),(("long_in" : Str),101),(("sign_in" : Str),108),(("letter_in" : Str),122),(("numbers_in" : Str),127),(("letters_in" : Str),132),(("way_in" : Str),139)],[(("FIGURES" : Str),("0123456789" : Str))],[(("DEED_WORDS" : Str),[(("own" : Str),[94],none),(("hear" : Str),[94,108],none),(("come" : Str),[122],none),(("keep" : Str),[94],none),(("note" : Str),[94,94],none),(("tell" : Str),[94,94],none),(("throw" : Str),[94],some 94),(("fall" : Str),[127,127],some 139)])]⟩
theorem lB{P:Program}{w:World}{h:Heap}{mg:Str->Option Value}(X:(Kf w.params).In h)(G:h.Ns mainGlobals mg):Tz P w (Kf w.params) mg xg:=by
 refine⟨λx a hm=>?_,λx v hm=>?_,λx tb hm=>?_⟩
 ·unfold xg at hm;simp only[bF,tP,gV,gD]at hm;rcases hm with⟨rfl,rfl⟩|⟨rfl,rfl⟩|⟨rfl,rfl⟩|⟨rfl,rfl⟩|⟨rfl,rfl⟩|⟨rfl,rfl⟩|⟨rfl,rfl⟩
  ·exact gC X G (nofun)
  ·exact gC X G (nofun)
  ·exact gC X G (nofun)
  ·exact gC X G (nofun)
  ·exact gC X G (nofun)
  ·exact gC X G (nofun)
  ·exact gC X G (nofun)
 ·unfold xg at hm;simp only[bF,tP,gV,gD]at hm;rcases hm with⟨rfl,rfl⟩
  ·exact⟨279,gC X G (nofun)⟩
 ·unfold xg at hm;simp only[bF,tP,gV,gD]at hm;rcases hm with⟨rfl,rfl⟩
  ·exact HA (es:=[(("own" : Str),349,(.ref 142)),(("hear" : Str),350,(.ref 144)),(("come" : Str),351,(.ref 146)),(("keep" : Str),352,(.ref 148)),(("note" : Str),353,(.ref 150)),(("tell" : Str),354,(.ref 152)),(("throw" : Str),355,(.ref 154)),(("fall" : Str),356,(.ref 156))]) (n:=8) X G (nofun) (by decide) (show(Kf w.params).lookup 140=some _ by kernel_rfl) ⋯ (nofun)
abbrev AL(l:PySem.W.OpenLaw)(w:World)(mg:Str->Option Value)(base:Heap)(k i:Nat):=All l.prog w (Kf w.params) mg base k (fs.take i)
theorem all_mk{l:PySem.W.OpenLaw}{w:World}{h:Heap}{mg:Str->Option Value}{fa:Addr}(X:(Kf w.params).In h)(G:h.Ns mainGlobals mg) (RQ:mg "law" = some (.ref fa)):∃fd:FuncData,(∀(s:Shared)(v:Value),BindsTo s fd ⟨[v],[]⟩ [("_law_script",v)])/\∀base:Heap,(Kf w.params).In base->base.Ns mainGlobals mg->fu l.prog w (Kf w.params) mg base (uw l.prog w) 38 fa fd ["_law_script"] (u6 (Kf w.params) 1 OJ):=by
 have W:Cw (Kf w.params) h mg gs:=⟨X,G,W6 X G,Hw X G (nofun)⟩;cases RQ.symm.trans (gC X G (show PySem.W.nsIn (Kf w.params) mainGlobals "law" = some (some (.ref 242)) by kernel_rfl));refine⟨fq "law" EV m3 (.ref 241),λs v=>.of_eq rfl,λbase _ _=>?_⟩;have A0:AL l w mg base 0 0 []:=All.nil;have A1:AL l w mg base 1 1 (c1 []):=nx "is_sign" 53 SI n0 ["thing"] b0 m0 (.ref 52) W A0;have A2:AL l w mg base 2 2 (c2 []):=nx "in_blanks" 63 SJ n1 ["parts"] b1 m1 (.ref 62) W A1;have A3:AL l w mg base 3 3 (c3 []):=nx "pair_text" 75 SM n2 ["one","other"] b2 m1 (.ref 74) W A2;have A4:AL l w mg base 4 4 (c4 []):=nx "letter_text" 82 SN n3 ["road","k"] b3 m1 (.ref 81) W A3;have A5:AL l w mg base 5 5 (c5 []):=nx "in_commas" 68 SO n4 ["parts"] b4 m1 (.ref 67) W A4;have A6:AL l w mg base 6 6 (c6 []):=nx "deed_text" 58 SQ n5 ["deed"] b5 m1 (.ref 57) W A5;have A7:AL l w mg base 7 7 (c7 []):=Hx (xs:=xg) "figures_in" 87 SS n6 ["word","most"] b6 m2 (.ref 86) W A6 (lB X G);have A8:AL l w mg base 8 8 (c8 []):=nx "number_in" 94 SU n7 ["word"] b7 m2 (.ref 93) W A7;have A9:AL l w mg base 9 9 (c9 []):=nx "long_in" 101 SV n8 ["word"] b8 m2 (.ref 100) W A8;have W7:AL l w mg base 10 10 (OE []):=nx "sign_in" 108 SW n9 ["word"] b9 m2 (.ref 107) W A9;have W8:AL l w mg base 11 11 (Ps []):=Hx (xs:=xg) "pair_in" 115 Jp Wc ["word","between","one_in","other_in"] T1 m2 (.ref 114) W W7 (lB X G);have W9:AL l w mg base 12 12 (Pt []):=Hx (xs:=xg) "letter_in" 122 Jq We ["word"] T3 m2 (.ref 121) W W8 (lB X G);have W_:AL l w mg base 13 13 (Pu []):=nx "numbers_in" 127 Jr Wg ["word"] T4 m2 (.ref 126) W W9;have Xa:AL l w mg base 14 14 (OF []):=nx "letters_in" 132 Js Wi ["word"] T5 m2 (.ref 131) W W_;have Xb:AL l w mg base 15 15 (Pw []):=Hx (xs:=xg) "pair_in" 115 PQ Wk ["word","between","one_in","other_in"] T6 m2 (.ref 114) W Xa (lB X G);have Xc:AL l w mg base 16 16 (OG []):=Hx (xs:=xg) "way_in" 139 Jt Wm ["word"] T7 m2 (.ref 138) W Xb (lB X G);have Xd:AL l w mg base 17 17 (Px []):=Hx (xs:=xg) "values_in" 163 Ju Wo ["words","readers","further"] T8 m2 (.ref 162) W Xc (lB X G);have Xe:AL l w mg base 18 18 (Py []):=Hx (xs:=xg) "read_deed" 170 Jv Wr ["text"] T9 m2 (.ref 169) W Xd (lB X G);have Xf:AL l w mg base 19 19 (Pz []):=nx "_law_feed" 177 Jw Wt ["_law_script"] T_ m3 (.ref 176) W Xe;have Xg:AL l w mg base 20 20 (PB []):=nx "_law_open" 184 Jx Wv ["_law_feed_here","_law_k"] Ua m3 (.ref 183) W Xf;have Xh:AL l w mg base 21 21 (PC []):=nx "_law_draw" 191 Jy Wx ["_law_feed_here","_law_many"] Ub m3 (.ref 190) W Xg;have Xi:AL l w mg base 22 22 (PD []):=nx "_law_line" 196 Jz Wz ["_law_words"] Uc m3 (.ref 195) W Xh;have Xj:AL l w mg base 23 23 (PF []):=nx "_law_commas" 201 JA WB ["_law_things"] Ud m3 (.ref 200) W Xi;have Xk:AL l w mg base 24 24 (PH []):=nx "_law_deed_text" 206 JB WD ["_law_deed"] Ue m3 (.ref 205) W Xj;have Xl:AL l w mg base 25 25 (PJ []):=nx "_law_number" 213 JC WG ["_law_feed_here"] Ug m3 (.ref 212) W Xk;have Xm:AL l w mg base 26 26 (PK []):=nx "_law_throw" 225 JD WI ["_law_feed_here"] Uh m3 (.ref 224) W Xl;have Xn:AL l w mg base 27 27 (PL []):=nx "_law_fall" 230 JE WK ["_law_feed_here"] Ui m3 (.ref 229) W Xm;have Xo:AL l w mg base 28 28 (OH []):=nx "_law_any_deed" 220 JF WM ["_law_feed_here"] Uj m3 (.ref 219) W Xn;have Xp:AL l w mg base 37 29 (PM []):=TC "_law_alike" 235 JG WO ["_law_found","_law_due"] Uk m3 (.ref 234) W Xo (n:=9);exact qE "law" 242 EV WR ["_law_script"] OI m3 (.ref 241) W Xp (nofun) (nofun) (nofun) ⋯
theorem I_{K:PySem.W.Frag}{H:Hp}{a:Addr}{xs:List V}(hO:AI H)(h:d5 K H a xs):oJ K H a xs:=by
 rcases h with(h | ⟨o,h⟩) | h
 ·rcases hO a with q | ⟨o,ys,q⟩
  ·rw[q]at h;cases h
  ·rw[q]at h;cases h
 ·exact .inl ⟨o,h⟩
 ·exact .inr h
theorem pM{K:PySem.W.Frag}{H:Hp}{ads:List Addr}:∀(ns:List Int),aF K ads H (ns.map D.int) (ns.map V.int)
 | []=>by unfold aF;rfl
 | i::ns=>by
  show aF K ads H (D.int i::ns.map D.int) (V.int i::ns.map V.int);unfold aF;exact⟨_,_,rfl,by unfold RD;rfl,pM ns⟩
theorem walk {l : PySem.W.OpenLaw} {q : Program} {loose : List Str} {XP : (Str -> Option Value) -> Heap -> Prop} {YP : World -> Heap -> Prop} {d : DefRec} {K : Params -> PySem.W.Frag} (SH : ∀ ns : List Int, ns.length <= 63 -> ∃ M, OJ [.ls (ns.map D.int)] [] = .ok (.d (.bl true)) M) (hn : l.most = some 63) (Mo : d.params.defaults = [])
    (hY:∀(w:World)(h:Heap),YP w h->(K w.params).In h)
    (F:∀(w:World)(mg:Str->Option Value)(fa:Addr)(h:Heap),(K w.params).In h->h.Ns mainGlobals mg->mg d.name=some (.ref fa) ->
      ∃fd:FuncData,(∀(s:Shared)(u:Value),BindsTo s fd ⟨[u],[]⟩ [("_law_script",u)])/\∀base:Heap,(K w.params).In base->base.Ns mainGlobals mg->fu l.prog w (K w.params) mg base (uw l.prog w) 38 fa fd ["_law_script"] (u6 (K w.params) 1 OJ)) :
    PySem.W.WalkO q loose XP YP l.row.toRowW d [] (λf vs=>PySem.call f vs) :=
  L2.AJ (n:=63) (k:=38) (x := "_law_script") (CX:=λw=>uw l.prog w) (sp:=λw=>u6 (K w.params) 1 OJ) hn (by decide) Mo ⟨rfl,by decide,by decide,rfl⟩ hY F (λw H a ns hl hO hS=>by
    obtain⟨M,hM⟩:=SH ns hl;refine⟨[],[],[.ls (ns.map D.int)],⟨λi j a e _=>by simp at e,rfl,λn o a e _=>by simp at e⟩,.one ?_,rfl,?_⟩
    · unfold RD;exact⟨a,_,rfl,I_ hO hS,pM ns⟩
    · rw[hM];intro v H' ao _ _ r;have r:RD (K w.params) ao H' (.bl true) v:=r;unfold RD at r;exact r) λ_ _ _ _ _ z=>z
end eA
end
end
open PySem PySem.W PyProof.Rows
set_option maxRecDepth 100000 in
set_option maxHeartbeats 0 in
theorem PySem.Challenge.cw_cutstand_k80_deeds_written_holds : PySem.Challenge.rw_cutstand_k80_deeds_written.Holds := by
 refine holds_law eA.Fi λFi=>?_;refine holds_open (q:=eA.vw) (loose:=["DEED_WORDS"]) (Xt:=λs=>xlAt eA.vw [] s&&recOk [] s) (XP:=XL eA.vw []) (Yf:=Hook.obs eA.hk) (Ya:=Hook.val eA.hk) (YP:=Hook.says eA.hk) (N:=3156) eA.Uy (Hook.of eA.hk) (Hook.keeps eA.hk) (λs e=>xl_of s (Bool.and_eq_true_iff.mp e).1) XL.keeps (by rfl) (by rfl) (by rfl) (λs e=>recFacts_of (Bool.and_eq_true_iff.mp e).2) (by rfl) Fi ⋯ ⟨rfl,rfl,rfl,rfl,rfl,⋯⟩ ?hw ?hc
 case hw=>w_witness2
 case hc=>exact eA.walk (l:=PySem.Challenge.rw_cutstand_k80_deeds_written) (K:=eA.Kf) eA.zB rfl rfl (λw h Y=>kIn_of Y) λw mg fa h KX G Gg=>eA.all_mk KX G Gg
#print axioms PySem.Challenge.cw_cutstand_k80_deeds_written_holds
