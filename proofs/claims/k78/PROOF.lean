import PyProof.Rows.All
import KE.KDictOf
import KE.KIsAll
import KE.KEqDict
import KE.KFind
import KE.KxWritten
import Open.Tree
import PyProof.MeetsSeq
import PyProof.Rows.SortRunK
import PySem.Challenge.RW_cutstand_k78_forms_written
import KE.KIntText
import PyProof.Rows.RegReprOcc
import PyProof.Rows.StrLawsPart
import PyProof.FitsReplace
set_option Elab.async false
set_option linter.all false
set_option maxRecDepth 100000
set_option genSizeOf false
set_option genInjectivity false
set_option bootstrap.genMatcherCode false
set_option compiler.extract_closed false
set_option maxHeartbeats 4000000
local macro_rules
  | `(⋯) => `(by decide +kernel)
  | `(nofun) => `(by kernel_rfl)
  | `(∅) => `(by omega)
  | `(tactic| omega) => `(tactic| first | with_reducible assumption | decide +kernel | lia | omega (config := {}))
abbrev aI:=@Bool.false_ne_true
abbrev aF:=@Bool.and_eq_true
abbrev ai:=@PySem.wpAny_bind
abbrev bj:=@Nat.le_of_ble_eq_true
abbrev aR:=@List.length_map
abbrev bQ:=@PySem.Heap.get?_push_of_some
abbrev a7:=@Nat.le_refl
abbrev bw:=@List.mem_cons
abbrev dq:=@List.getElem?_eq_some_iff
abbrev cz:=@List.length_append
abbrev bg:=@PySem.wpAny_pure
abbrev cT:=@List.mem_of_getElem?
abbrev cG:=@List.mem_cons_self
abbrev cB:=@List.size_toArray
abbrev cZ:=@List.mem_cons_of_mem
abbrev aG:=@if_pos
abbrev cH:=@Option.some.inj
abbrev cg:=@PySem.Heap.lt_size
abbrev aT:=@if_neg
abbrev d5:=@PySem.Heap.get?_push_size
abbrev fx:=@List.getElem?_eq_getElem
abbrev fL:=@List.getElem?_append_left
abbrev c_:=@decide_eq_false
abbrev dE:=@decide_eq_true
abbrev fc:=@Nat.lt_of_lt_of_le
abbrev eJ:=@List.length_cons
abbrev eK:=@List.lookup_cons
abbrev ff:=@List.getElem?_map
abbrev gW:=@List.mem_append_right
abbrev fy:=@List.take_length
abbrev dR:=@List.mem_map
abbrev d_:=@List.map_cons
abbrev gG:=@List.mem_singleton
abbrev fM:=@List.not_mem_nil
abbrev fA:=@List.map_append
abbrev fT:=@List.length_take
abbrev fN:=@List.mem_append
abbrev lT:=@List.getElem?_append_right
abbrev gX:=@Bool.not_eq_true'
abbrev fg:=@Nat.ne_of_lt
abbrev fh:=@Nat.le_trans
abbrev eT:=@beq_iff_eq
abbrev j9:=@PySem.mem_of_lookup
abbrev dH:=@or_false
abbrev jc:=@beq_self_eq_true
abbrev jM:=@List.append_assoc
abbrev jN:=@List.all_eq_true
abbrev uB:=@PyProof.Rows.slot_tuple_getitem
abbrev ie:=@PySem.W.mg_of
abbrev gH:=@PySem.wpAny_field
abbrev m7:=@beq_eq_false_iff_ne
abbrev j_:=@PySem.W.kia_one
abbrev oN:=@List.getElem?_set_ne
abbrev jO:=@Nat.lt_irrefl
abbrev kc:=@PySem.Heap.size_push
abbrev lU:=@List.append_nil
abbrev lV:=@List.find?_cons
abbrev lW:=@List.length_set
abbrev uC:=@List.isEmpty_eq_false_iff
abbrev uD:=@Option.isSome_iff_exists
abbrev oO:=@PySem.wpAny_setField_rec
abbrev uE:=@PySem.wpAny_callSpecial?_slot
abbrev oP:=@PySem.wpAny_truthy_bool
abbrev oQ:=@decide_eq_true_eq
abbrev oR:=@PySem.Str.length_append
abbrev uF:=@List.getElem?_set_self
abbrev kg:=@Nat.lt_trans
abbrev kh:=@List.map_map
abbrev je:=@PySem.wpAny_mono
abbrev jf:=@PySem.call_meets
abbrev oS:=@List.mem_nil_iff
abbrev fO:=@if_true
abbrev qK:=@PySem.wpAny_newObj_type
abbrev qL:=@Option.some.injEq
abbrev m9:=@PySem.wpAny_holding
abbrev uG:=@List.filterMap_cons
abbrev uH:=@Array.length_toList
abbrev uI:=@List.replicate_succ
abbrev qM:=@PySem.wpAny_call_entry
abbrev oT:=@PySem.wpAny_seqItems
abbrev lX:=@Nat.zero_le
abbrev uJ:=@PySem.wpAny_pyIter_tuple
abbrev AZ:=@PyProof.Rows.callWith_type1
abbrev m_:=@List.map_nil
abbrev na:=@Nat.le_of_eq
abbrev uK:=@Int.emod_lt_of_pos
abbrev A_:=@PySem.F.slot_tuple_iterator_next
abbrev uL:=@PySem.wpAny_pyIter_list
abbrev uM:=@PySem.F.plainAttrs_list
abbrev Ba:=@List.getElem?_eq_none_iff
abbrev ig:=@Ne.symm
abbrev jP:=@congrArg
abbrev uN:=@Nat.lt_succ_self
abbrev uO:=@List.isEmpty_iff
abbrev wt:=@List.drop_succ_cons
abbrev uP:=@List.forIn_cons
abbrev uQ:=@Int.emod_nonneg
abbrev Go:=@List.eq_nil_of_length_eq_zero
abbrev wu:=@List.flatten_cons
abbrev wz:=@Nat.le_of_succ_le
abbrev Bb:=@List.contains_iff_mem
abbrev Bc:=@List.getElem?_eq_none
abbrev Bd:=@List.mem_append_left
abbrev Be:=@List.mem_iff_getElem
abbrev wA:=@List.cons_ne_nil
abbrev uR:=@Prod.mk.injEq
abbrev Gp:=@List.getD_eq_getElem?_getD
abbrev Bf:=@List.length_zipWith
abbrev wB:=@PySem.wpAny_passesOwn
abbrev wC:=@List.nodup_cons
abbrev wD:=@List.nil_append
abbrev wF:=@PySem.F.slot_zip_next
abbrev Gq:=@Classical.byContradiction
abbrev wG:=@Bool.or_eq_true
abbrev Bg:=@PySem.wpAny_Call_Name_kw
abbrev Gr:=@PySem.F.args_tuple_add_2
abbrev nc:=@and_self
abbrev wH:=@List.forIn_nil
abbrev Gs:=@PySem.F.entry_tuple_add
abbrev Gu:=@List.length_eq_zero_iff
abbrev Bh:=@Int.toNat_natCast
abbrev Bj:=@Nat.lt_succ_of_lt
abbrev Gw:=@Option.map_eq_some_iff
abbrev Gx:=@PySem.F.slot_tuple_add
abbrev wI:=@List.any_cons
abbrev wJ:=@List.sum_cons
abbrev Bk:=@PySem.F.slot_tuple_mul
abbrev Bl:=@PySem.F.slot_str_split
abbrev Gy:=@List.length_replicate
abbrev nh:=@Iff.rfl
abbrev Gz:=@PySem.StrLaws.glued_eq_join
abbrev GA:=@List.getElem?_zipWith
abbrev wK:=@Nat.le_of_lt
abbrev uS:=@PySem.wpAny_Name
abbrev Bm:=@PySem.wpAny_execs_nil
abbrev Bn:=@List.foldl_cons
abbrev Bo:=@PySem.F.slot_int_rmul
abbrev GB:=@PySem.wpAny_updateSeq_pair
abbrev Bp:=@List.cons.inj
abbrev GC:=@List.any_eq_false
abbrev GD:=@List.flatMap_cons
abbrev GF:=@List.foldl_append
noncomputable section
section
namespace L2
open PySem PySem.Spec PyProof.Rows
noncomputable def gx(s:Stmt):Arguments:=match s with
 | .FunctionDef _ a _ _ _ _ _ _ _ _=>a
 | _=>{posonlyargs:=[],args:=[],vararg:=none,kwonlyargs:=[],kw_defaults:=[],kwarg:=none,defaults:=[]}
noncomputable def cR(s:Stmt):List Stmt:=match s with
 | .FunctionDef _ _ b _ _ _ _ _ _ _=>b
 | _=>[]
noncomputable def a_(s:Stmt):Scope:=match s with
 | .FunctionDef _ _ _ _ _ _ sc _ _ _=>sc
 | _=>{kind:=.function,names:=[],isGenerator:=false,isCoroutine:=false}
abbrev VE:List Value:=[.type "ValueError",.type "Exception",.type "BaseException",.type "object"]
end L2
namespace Ev
open L2
open PySem PySem.Spec PyProof.Rows
abbrev fq(x:Str)(s:Stmt)(m c:Value):FuncData:=PySem.W.fnOf x x (gx s) (cR s) (a_ s) .none .none .none m none c .none
noncomputable def fo(f:FuncData):Obj:=⟨.type "function",none,.func f,#[]⟩
end Ev
namespace eU
open L2 Ev PySem PySem.Spec PyProof.Rows
noncomputable def aZ(i:Nat):Stmt:=PySem.Challenge.pw_cutstand_k78_forms_written.main.body.getD i (.Pass ⟨0,0,0,0⟩)
abbrev VT:=aZ 5
abbrev VU:=aZ 6
abbrev VW:=aZ 10
abbrev VX:=aZ 12
abbrev VY:=aZ 11
abbrev VZ:=aZ 9
abbrev V0:=aZ 8
abbrev V1:=aZ 16
abbrev V2:=aZ 17
abbrev V3:=aZ 18
abbrev Lz:=aZ 19
abbrev LA:=aZ 20
abbrev LB:=aZ 21
abbrev LC:=aZ 22
abbrev LD:=aZ 23
abbrev LF:=aZ 25
abbrev LG:=aZ 26
abbrev LH:=aZ 27
abbrev LI:=aZ 29
abbrev LJ:=aZ 28
abbrev LK:=aZ 31
abbrev LL:=aZ 32
abbrev LM:=aZ 33
abbrev LN:=aZ 34
abbrev LO:=aZ 35
abbrev LP:=aZ 36
abbrev LQ:=aZ 37
abbrev LR:=aZ 38
abbrev LS:=aZ 39
abbrev LU:=aZ 40
abbrev GG:=aZ 41
abbrev m0:Value:=(.str "cutstand.kinds" 232)
abbrev m1:Value:=(.str "cutstand.texts" 249)
abbrev m2:Value:=(.str "cutstand.reading" 293)
abbrev m3:Value:=(.str "law_cutstand_k78_forms_written" 410)
noncomputable def en(P:Params)(k:Str)(t:Nat)(v:Value):DictEntry:=⟨PyData.keyHash P k,.str k t,v⟩
noncomputable def co(a:Array Value):Obj:=⟨.type "code",none,.fields a,#[]⟩
noncomputable def cp(n:Nat):Value:=.str "/claim/cut.py" n
noncomputable def iv(n:Nat):Value:=.int n 0
noncomputable def fU:Stmt->Stmt
 | .ClassDef _ _ _ b _ _ _ _ _ _ _=>b.getD 0 (.Pass ⟨0,0,0,0⟩)
 | s=>s
noncomputable abbrev kl(nm:Str)(C N:Addr)(bs bm sub:List Value)(k0:Value)(t2 t3:Nat):Obj:=excClassObj nm nm C N bs bm true [] sub false none none (some k0) none (some (.str nm t2)) (some (.str nm t3)) (some (.bool true)) "ValueError.__new__"
noncomputable def sq(a:Array Value):Obj:=⟨.type "tuple",none,.seq a 0,#[]⟩
noncomputable def dc(c:Value)(a:Array DictEntry)(n:Nat):Obj:=⟨c,none,.dict a n,#[]⟩
noncomputable def fr(a:Array (Option Value)):Obj:={cls:=.type "frame",slots:=a}
noncomputable def fz(x q:Str)(s:Stmt):Obj:=⟨.none,none,.func {name:=x,qualname:=q,params:=gx s,body:=.stmts (cR s),scope:=a_ s,globals:=0,closure:=[],defaults:=.none,kwdefaults:=.none},#[]⟩
noncomputable abbrev nd:=PySem.W.BT.node
noncomputable abbrev lf(o:Obj):PySem.W.BT:=nd o .nil .nil
noncomputable def GH:Obj:=sq #[]
noncomputable def Ss:Obj:=⟨.none,none,.fields #[],#[]⟩
noncomputable def GI:Obj:=co #[(.str "<module>" 182),(.str "<module>" 183),(cp 184),(iv 1),(iv 0),(iv 0),(iv 0),(iv 0),(.ref 11),(.bool false),(iv 181),(.ref 12),.none,.none,.none,.none,(iv 185),(iv 1),(cp 186)]
noncomputable def GJ:Obj:=fr #[some (.ref 13),some (.ref 3),some (.ref 3),none,some (.str "__main__" 164),none,some (.ref 0)]
noncomputable def Xx(P:Params):Obj:=dc (.type "dict") #[en P "__name__" 165 (.str "law_cutstand_k78_forms_written" 410),en P "__doc__" 166 .none,en P "__package__" 167 .none,en P "__loader__" 168 (.builtin "__main__.__loader__#opaque"),en P "__spec__" 169 .none,en P "__annotations__" 170 (.ref 6),en P "__builtins__" 171 (.ref 4),en P "__file__" 173 (cp 172),en P "__cached__" 174 .none,en P "CutError" 206 (.ref 24),en P "NoText" 231 (.ref 44),en P "LONGEST_WORD" 235 (.int 8 234),en P "is_sign" 242 (.ref 53),en P "is_word" 248 (.ref 58),en P "form_lines" 264 (.ref 65),en P "move_line" 272 (.ref 72),en P "in_blanks" 278 (.ref 77),en P "pairs" 284 (.ref 82),en P "pair_text" 292 (.ref 89),en P "FIGURES" 296 (.str "0123456789" 295),en P "MOST_FIGURES" 298 (.int 9 297),en P "figures_in" 304 (.ref 94),en P "number_in" 311 (.ref 101),en P "sign_in" 318 (.ref 108),en P "cause_in" 325 (.ref 115),en P "word_in" 332 (.ref 122),en P "order_in" 339 (.ref 129),en P "pair_in" 350 (.ref 136),en P "send_in" 357 (.ref 143),en P "FORM_WORDS" 364 (.ref 144),en P "values_in" 376 (.ref 157),en P "first_word" 384 (.ref 164),en P "line_values" 395 (.ref 171),en P "read_form" 401 (.ref 176),en P "names_open" 409 (.ref 183),en P "_law_feed" 418 (.ref 190),en P "_law_open" 426 (.ref 197),en P "_law_draw" 437 (.ref 204),en P "_law_move" 443 (.ref 209)] 39
noncomputable def GK:Obj:=⟨.none,none,.fields #[(.int 2 0),(.int 0 0),(.ref 20),(.int 4 0),(.int 0 0),(.ref 33),(.int 10 0),(.int 0 0),(.ref 52),(.int 12 0),(.int 0 0),(.ref 57),(.int 17 0),(.int 0 0),(.ref 64),(.int 26 0),(.int 0 0),(.ref 71),(.int 29 0),(.int 0 0),(.ref 76),(.int 31 0),(.int 0 0),(.ref 81),(.int 33 0),(.int 0 0),(.ref 88),(.int 38 0),(.int 0 0),(.ref 93),(.int 44 0),(.int 0 0),(.ref 100),(.int 46 0),(.int 0 0),(.ref 107),(.int 50 0),(.int 0 0),(.ref 114),(.int 52 0),(.int 0 0),(.ref 121),(.int 58 0),(.int 0 0),(.ref 128),(.int 62 0),(.int 0 0),(.ref 135),(.int 65 0),(.int 0 0),(.ref 142),(.int 68 0),(.int 0 0),(.ref 156),(.int 81 0),(.int 0 0),(.ref 163),(.int 83 0),(.int 0 0),(.ref 170),(.int 90 0),(.int 0 0),(.ref 175),(.int 109 0),(.int 0 0),(.ref 182),(.int 116 0),(.int 0 0),(.ref 189),(.int 118 0),(.int 0 0),(.ref 196),(.int 123 0),(.int 0 0),(.ref 203),(.int 132 0),(.int 0 0),(.ref 208)],#[]⟩
noncomputable def LV:Obj:=sq #[(.type "ValueError")]
noncomputable def LW:Obj:=⟨(.type "builtin_function_or_method"),none,.fields #[(.builtin "type.__prepare__"),(.type "type")],#[]⟩
noncomputable def LX(P:Params):Obj:=dc (.type "dict") #[en P "__module__" 196 (.str "cutstand.errors" 187),en P "__qualname__" 198 (.str "CutError" 197),en P "__firstlineno__" 200 (.int 2 199),en P "__static_attributes__" 201 (.ref 22)] 4
noncomputable def LY:Obj:=sq #[]
noncomputable def LZ:Obj:=⟨.none,none,.fields #[],#[]⟩
noncomputable def L0:Obj:=co #[(.str "CutError" 191),(.str "CutError" 192),(cp 193),(iv 2),(iv 0),(iv 0),(iv 0),(iv 0),(.ref 18),(.bool false),(iv 181),(.ref 19),.none,.none,.none,.none,(iv 194),(iv 2),(cp 195)]
noncomputable def L1:Obj:=fr #[some (.ref 20),some (.ref 3),some (.ref 17),none,some (.str "cutstand.errors" 187),none,some (.ref 0)]
noncomputable def L3:Obj:=sq #[]
noncomputable def L4(P:Params):Obj:=dc (.type "dict") #[en P "__module__" 196 (.str "cutstand.errors" 187),en P "__firstlineno__" 200 (.int 2 199),en P "__static_attributes__" 201 (.ref 22),en P "__weakref__" 203 (.ref 25),en P "__doc__" 204 .none] 3
noncomputable def L5:Obj:=kl "CutError" 24 23 [(.type "ValueError")] VE [(.ref 44)] (.ref 15) 189 197
noncomputable def L6:Obj:=⟨(.type "getset_descriptor"),none,.fields #[(.str "__weakref__" 202),(.ref 24),(.builtin "ExceptionGroup.__weakref__"),.none],#[]⟩
noncomputable def L7:Obj:=⟨(.type "super"),none,.fields #[(.ref 24),(.ref 24),(.ref 24)],#[]⟩
noncomputable def L8:Obj:=⟨(.type "builtin_function_or_method"),none,.fields #[(.builtin "object.__init_subclass__"),(.ref 24)],#[]⟩
noncomputable def L9:Obj:=sq #[(.ref 24)]
noncomputable def L_:Obj:=⟨(.type "builtin_function_or_method"),none,.fields #[(.builtin "type.__prepare__"),(.type "type")],#[]⟩
noncomputable def Ma(P:Params):Obj:=dc (.type "dict") #[en P "__module__" 214 (.str "cutstand.errors" 187),en P "__qualname__" 216 (.str "NoText" 215),en P "__firstlineno__" 218 (.int 4 217),en P "__init__" 226 (.ref 41),en P "__static_attributes__" 228 (.ref 42)] 5
noncomputable def Mb:Obj:=sq #[]
noncomputable def Mc:Obj:=⟨.none,none,.fields #[(.int 6 0),(.int 4 0),(.ref 40)],#[]⟩
noncomputable def Md:Obj:=co #[(.str "NoText" 209),(.str "NoText" 210),(cp 211),(iv 4),(iv 0),(iv 0),(iv 0),(iv 0),(.ref 31),(.bool false),(iv 181),(.ref 32),.none,.none,.none,.none,(iv 212),(iv 4),(cp 213)]
noncomputable def Mf:Obj:=fr #[some (.ref 33),some (.ref 3),some (.ref 30),none,some (.str "cutstand.errors" 187),none,some (.ref 0)]
noncomputable def Mg:Obj:=sq #[]
noncomputable def Mh:Obj:=⟨.none,none,.fields #[],#[]⟩
noncomputable def Mi:Obj:=sq #[(.str "self" 222),(.str "at" 223)]
noncomputable def Mj:Obj:=sq #[]
noncomputable def Mk:Obj:=fz "__init__" "NoText.__init__" (fU (aZ 2))
noncomputable def Ml:Obj:=co #[(.str "__init__" 219),(.str "NoText.__init__" 220),(cp 221),(iv 6),(iv 2),(iv 0),(iv 0),(iv 3),(.ref 35),(.bool true),(iv 181),(.ref 36),.none,(.ref 37),(.ref 38),(.ref 39),(iv 224),(iv 6),(cp 225)]
noncomputable def Mm:Obj:=fo (PySem.W.fnOf "__init__" "NoText.__init__" (gx (fU (aZ 2))) (cR (fU (aZ 2))) (a_ (fU (aZ 2))) .none .none .none (.str "cutstand.errors" 187) none (.ref 40) .none)
noncomputable def Mn:Obj:=sq #[(.str "at" 227)]
noncomputable def Mo(P:Params):Obj:=dc (.type "dict") #[en P "__module__" 214 (.str "cutstand.errors" 187),en P "__firstlineno__" 218 (.int 4 217),en P "__init__" 226 (.ref 41),en P "__static_attributes__" 228 (.ref 42),en P "__doc__" 229 .none] 2
noncomputable def Mp:Obj:=kl "NoText" 44 43 [(.ref 24)] ((.ref 24)::VE) [] (.ref 28) 207 215
noncomputable def Mq:Obj:=⟨(.type "super"),none,.fields #[(.ref 44),(.ref 44),(.ref 44)],#[]⟩
noncomputable def Mr:Obj:=⟨(.type "builtin_function_or_method"),none,.fields #[(.builtin "object.__init_subclass__"),(.ref 44)],#[]⟩
noncomputable def Ms:Obj:=sq #[]
noncomputable def Mt:Obj:=⟨.none,none,.fields #[],#[]⟩
noncomputable def Mu:Obj:=sq #[(.str "thing" 239)]
noncomputable def Mx:Obj:=sq #[]
noncomputable def My:Obj:=fz "is_sign" "is_sign" (fU (aZ 5))
noncomputable def GL:Obj:=co #[(.str "is_sign" 236),(.str "is_sign" 237),(cp 238),(iv 10),(iv 1),(iv 0),(iv 0),(iv 3),(.ref 47),(.bool true),(iv 181),(.ref 48),.none,(.ref 49),(.ref 50),(.ref 51),(iv 240),(iv 10),(cp 241)]
noncomputable def GN:Obj:=fo (fq "is_sign" VT m0 (.ref 52))
noncomputable def Mz:Obj:=sq #[]
noncomputable def MA:Obj:=⟨.none,none,.fields #[],#[]⟩
noncomputable def MB:Obj:=fz "is_word" "is_word" (fU (aZ 6))
noncomputable def GO:Obj:=co #[(.str "is_word" 243),(.str "is_word" 244),(cp 245),(iv 12),(iv 1),(iv 0),(iv 0),(iv 3),(.ref 54),(.bool true),(iv 181),(.ref 55),.none,.none,.none,(.ref 56),(iv 246),(iv 12),(cp 247)]
noncomputable def GP:Obj:=fo (fq "is_word" VU m0 (.ref 57))
noncomputable def MC:Obj:=sq #[]
noncomputable def MD:Obj:=⟨.none,none,.fields #[],#[]⟩
noncomputable def ME:Obj:=sq #[(.str "form" 254),(.str "lines" 255),(.str "start" 256),(.str "moves" 257),(.str "move" 258),(.str "one" 259),(.str "other" 260),(.str "order" 261)]
noncomputable def MF:Obj:=sq #[]
noncomputable def MG:Obj:=fz "form_lines" "form_lines" (fU (aZ 8))
noncomputable def GQ:Obj:=co #[(.str "form_lines" 251),(.str "form_lines" 252),(cp 253),(iv 17),(iv 1),(iv 0),(iv 0),(iv 3),(.ref 59),(.bool true),(iv 181),(.ref 60),.none,(.ref 61),(.ref 62),(.ref 63),(iv 262),(iv 17),(cp 263)]
noncomputable def GR:Obj:=fo (fq "form_lines" V0 m1 (.ref 64))
noncomputable def MH:Obj:=sq #[]
noncomputable def MI:Obj:=⟨.none,none,.fields #[],#[]⟩
noncomputable def MJ:Obj:=sq #[(.str "move" 268),(.str "word" 269)]
noncomputable def MK:Obj:=sq #[]
noncomputable def ML:Obj:=fz "move_line" "move_line" (fU (aZ 9))
noncomputable def GS:Obj:=co #[(.str "move_line" 265),(.str "move_line" 266),(cp 267),(iv 26),(iv 1),(iv 0),(iv 0),(iv 3),(.ref 66),(.bool true),(iv 181),(.ref 67),.none,(.ref 68),(.ref 69),(.ref 70),(iv 270),(iv 26),(cp 271)]
noncomputable def GU:Obj:=fo (fq "move_line" VZ m1 (.ref 71))
noncomputable def MM:Obj:=sq #[]
noncomputable def MN:Obj:=⟨.none,none,.fields #[],#[]⟩
noncomputable def MP:Obj:=fz "in_blanks" "in_blanks" (fU (aZ 10))
noncomputable def GV:Obj:=co #[(.str "in_blanks" 273),(.str "in_blanks" 274),(cp 275),(iv 29),(iv 1),(iv 0),(iv 0),(iv 3),(.ref 73),(.bool true),(iv 181),(.ref 74),.none,.none,.none,(.ref 75),(iv 276),(iv 29),(cp 277)]
noncomputable def GW:Obj:=fo (fq "in_blanks" VW m1 (.ref 76))
noncomputable def MQ:Obj:=sq #[]
noncomputable def MR:Obj:=⟨.none,none,.fields #[],#[]⟩
noncomputable def MS:Obj:=fz "pairs" "pairs" (fU (aZ 11))
noncomputable def GX:Obj:=co #[(.str "pairs" 279),(.str "pairs" 280),(cp 281),(iv 31),(iv 1),(iv 0),(iv 0),(iv 3),(.ref 78),(.bool true),(iv 181),(.ref 79),.none,.none,.none,(.ref 80),(iv 282),(iv 31),(cp 283)]
noncomputable def GY:Obj:=fo (fq "pairs" VY m1 (.ref 81))
noncomputable def MT:Obj:=sq #[]
noncomputable def MU:Obj:=⟨.none,none,.fields #[],#[]⟩
noncomputable def MV:Obj:=sq #[(.str "one" 288),(.str "other" 289)]
noncomputable def MW:Obj:=sq #[]
noncomputable def MX:Obj:=fz "pair_text" "pair_text" (fU (aZ 12))
noncomputable def GZ:Obj:=co #[(.str "pair_text" 285),(.str "pair_text" 286),(cp 287),(iv 33),(iv 2),(iv 0),(iv 0),(iv 3),(.ref 83),(.bool true),(iv 181),(.ref 84),.none,(.ref 85),(.ref 86),(.ref 87),(iv 290),(iv 33),(cp 291)]
noncomputable def G0:Obj:=fo (fq "pair_text" VX m1 (.ref 88))
noncomputable def MY:Obj:=sq #[]
noncomputable def MZ:Obj:=⟨.none,none,.fields #[],#[]⟩
noncomputable def M9:Obj:=fz "figures_in" "figures_in" (fU (aZ 16))
noncomputable def G1:Obj:=co #[(.str "figures_in" 299),(.str "figures_in" 300),(cp 301),(iv 38),(iv 2),(iv 0),(iv 0),(iv 3),(.ref 90),(.bool true),(iv 181),(.ref 91),.none,.none,.none,(.ref 92),(iv 302),(iv 38),(cp 303)]
noncomputable def G2:Obj:=fo (fq "figures_in" V1 m2 (.ref 93))
noncomputable def M_:Obj:=sq #[]
noncomputable def Na:Obj:=⟨.none,none,.fields #[],#[]⟩
noncomputable def Nb:Obj:=sq #[(.str "word" 308)]
noncomputable def Nc:Obj:=sq #[]
noncomputable def Nd:Obj:=fz "number_in" "number_in" (fU (aZ 17))
noncomputable def wL:Obj:=co #[(.str "number_in" 305),(.str "number_in" 306),(cp 307),(iv 44),(iv 1),(iv 0),(iv 0),(iv 3),(.ref 95),(.bool true),(iv 181),(.ref 96),.none,(.ref 97),(.ref 98),(.ref 99),(iv 309),(iv 44),(cp 310)]
noncomputable def wM:Obj:=fo (fq "number_in" V2 m2 (.ref 100))
noncomputable def DD:Obj:=sq #[]
noncomputable def DE:Obj:=⟨.none,none,.fields #[],#[]⟩
noncomputable def DF:Obj:=sq #[(.str "word" 315)]
noncomputable def DG:Obj:=sq #[]
noncomputable def DH:Obj:=fz "sign_in" "sign_in" (fU (aZ 18))
noncomputable def wN:Obj:=co #[(.str "sign_in" 312),(.str "sign_in" 313),(cp 314),(iv 46),(iv 1),(iv 0),(iv 0),(iv 3),(.ref 102),(.bool true),(iv 181),(.ref 103),.none,(.ref 104),(.ref 105),(.ref 106),(iv 316),(iv 46),(cp 317)]
noncomputable def wQ:Obj:=fo (fq "sign_in" V3 m2 (.ref 107))
noncomputable def DI:Obj:=sq #[]
noncomputable def DJ:Obj:=⟨.none,none,.fields #[],#[]⟩
noncomputable def DK:Obj:=sq #[(.str "word" 322)]
noncomputable def DL:Obj:=sq #[]
noncomputable def DM:Obj:=fz "cause_in" "cause_in" (fU (aZ 19))
noncomputable def wR:Obj:=co #[(.str "cause_in" 319),(.str "cause_in" 320),(cp 321),(iv 50),(iv 1),(iv 0),(iv 0),(iv 3),(.ref 109),(.bool true),(iv 181),(.ref 110),.none,(.ref 111),(.ref 112),(.ref 113),(iv 323),(iv 50),(cp 324)]
noncomputable def wU:Obj:=fo (fq "cause_in" Lz m2 (.ref 114))
noncomputable def DN:Obj:=sq #[]
noncomputable def DO:Obj:=⟨.none,none,.fields #[],#[]⟩
noncomputable def DP:Obj:=sq #[(.str "word" 329)]
noncomputable def DQ:Obj:=sq #[]
noncomputable def DR:Obj:=fz "word_in" "word_in" (fU (aZ 20))
noncomputable def wV:Obj:=co #[(.str "word_in" 326),(.str "word_in" 327),(cp 328),(iv 52),(iv 1),(iv 0),(iv 0),(iv 3),(.ref 116),(.bool true),(iv 181),(.ref 117),.none,(.ref 118),(.ref 119),(.ref 120),(iv 330),(iv 52),(cp 331)]
noncomputable def wW:Obj:=fo (fq "word_in" LA m2 (.ref 121))
noncomputable def DS:Obj:=sq #[]
noncomputable def DT:Obj:=⟨.none,none,.fields #[],#[]⟩
noncomputable def DU:Obj:=sq #[(.str "word" 336)]
noncomputable def DV:Obj:=sq #[]
noncomputable def DW:Obj:=fz "order_in" "order_in" (fU (aZ 21))
noncomputable def wX:Obj:=co #[(.str "order_in" 333),(.str "order_in" 334),(cp 335),(iv 58),(iv 1),(iv 0),(iv 0),(iv 3),(.ref 123),(.bool true),(iv 181),(.ref 124),.none,(.ref 125),(.ref 126),(.ref 127),(iv 337),(iv 58),(cp 338)]
noncomputable def wY:Obj:=fo (fq "order_in" LB m2 (.ref 128))
noncomputable def DX:Obj:=sq #[]
noncomputable def DY:Obj:=⟨.none,none,.fields #[],#[]⟩
noncomputable def DZ:Obj:=sq #[(.str "word" 343),(.str "between" 344),(.str "one_in" 345),(.str "other_in" 346),(.str "parts" 347)]
noncomputable def D0:Obj:=sq #[]
noncomputable def D1:Obj:=fz "pair_in" "pair_in" (fU (aZ 22))
noncomputable def wZ:Obj:=co #[(.str "pair_in" 340),(.str "pair_in" 341),(cp 342),(iv 62),(iv 4),(iv 0),(iv 0),(iv 3),(.ref 130),(.bool true),(iv 181),(.ref 131),.none,(.ref 132),(.ref 133),(.ref 134),(iv 348),(iv 62),(cp 349)]
noncomputable def w4:Obj:=fo (fq "pair_in" LC m2 (.ref 135))
noncomputable def D2:Obj:=sq #[]
noncomputable def D3:Obj:=⟨.none,none,.fields #[],#[]⟩
noncomputable def D4:Obj:=sq #[(.str "word" 354)]
noncomputable def D5:Obj:=sq #[]
noncomputable def D6:Obj:=fz "send_in" "send_in" (fU (aZ 23))
noncomputable def w6:Obj:=co #[(.str "send_in" 351),(.str "send_in" 352),(cp 353),(iv 65),(iv 1),(iv 0),(iv 0),(iv 3),(.ref 137),(.bool true),(iv 181),(.ref 138),.none,(.ref 139),(.ref 140),(.ref 141),(iv 355),(iv 65),(cp 356)]
noncomputable def w_:Obj:=fo (fq "send_in" LD m2 (.ref 142))
noncomputable def xa(P:Params):Obj:=dc (.type "dict") #[en P "machine" 358 (.ref 146),en P "move" 359 (.ref 148),en P "road" 360 (.ref 150)] 3
noncomputable def xb:Obj:=sq #[(.ref 101)]
noncomputable def xh:Obj:=sq #[(.ref 145),.none]
noncomputable def xi:Obj:=sq #[(.ref 101),(.ref 115),(.ref 101),(.ref 122)]
noncomputable def xj:Obj:=sq #[(.ref 147),(.ref 143)]
noncomputable def xk:Obj:=sq #[(.ref 101),(.ref 101),(.ref 129)]
noncomputable def xl:Obj:=sq #[(.ref 149),.none]
noncomputable def D7:Obj:=sq #[]
noncomputable def D8:Obj:=⟨.none,none,.fields #[],#[]⟩
noncomputable def D9:Obj:=sq #[(.str "words" 368),(.str "readers" 369),(.str "further" 370),(.str "values" 371),(.str "place" 372),(.str "reader" 373)]
noncomputable def D_:Obj:=sq #[]
noncomputable def Ea:Obj:=fz "values_in" "values_in" (fU (aZ 25))
noncomputable def xm:Obj:=co #[(.str "values_in" 365),(.str "values_in" 366),(cp 367),(iv 68),(iv 3),(iv 0),(iv 0),(iv 3),(.ref 151),(.bool true),(iv 181),(.ref 152),.none,(.ref 153),(.ref 154),(.ref 155),(iv 374),(iv 68),(cp 375)]
noncomputable def xn:Obj:=fo (fq "values_in" LF m2 (.ref 156))
noncomputable def Eb:Obj:=sq #[]
noncomputable def Ec:Obj:=⟨.none,none,.fields #[],#[]⟩
noncomputable def Ed:Obj:=sq #[(.str "lines" 380),(.str "at" 381)]
noncomputable def Ee:Obj:=sq #[]
noncomputable def Ef:Obj:=fz "first_word" "first_word" (fU (aZ 26))
noncomputable def xo:Obj:=co #[(.str "first_word" 377),(.str "first_word" 378),(cp 379),(iv 81),(iv 2),(iv 0),(iv 0),(iv 3),(.ref 158),(.bool true),(iv 181),(.ref 159),.none,(.ref 160),(.ref 161),(.ref 162),(iv 382),(iv 81),(cp 383)]
noncomputable def xq:Obj:=fo (fq "first_word" LG m2 (.ref 163))
noncomputable def Eg:Obj:=sq #[]
noncomputable def Eh:Obj:=⟨.none,none,.fields #[],#[]⟩
noncomputable def Ei:Obj:=sq #[(.str "lines" 388),(.str "at" 389),(.str "name" 390),(.str "readers" 391),(.str "further" 392)]
noncomputable def Ej:Obj:=sq #[]
noncomputable def Ek:Obj:=fz "line_values" "line_values" (fU (aZ 27))
noncomputable def xr:Obj:=co #[(.str "line_values" 385),(.str "line_values" 386),(cp 387),(iv 83),(iv 5),(iv 0),(iv 0),(iv 3),(.ref 165),(.bool true),(iv 181),(.ref 166),.none,(.ref 167),(.ref 168),(.ref 169),(iv 393),(iv 83),(cp 394)]
noncomputable def xt:Obj:=fo (fq "line_values" LH m2 (.ref 170))
noncomputable def El:Obj:=sq #[]
noncomputable def Em:Obj:=⟨.none,none,.fields #[],#[]⟩
noncomputable def Eo:Obj:=fz "read_form" "read_form" (fU (aZ 28))
noncomputable def xu:Obj:=co #[(.str "read_form" 396),(.str "read_form" 397),(cp 398),(iv 90),(iv 1),(iv 0),(iv 0),(iv 3),(.ref 172),(.bool true),(iv 181),(.ref 173),.none,.none,.none,(.ref 174),(iv 399),(iv 90),(cp 400)]
noncomputable def xv:Obj:=fo (fq "read_form" LJ m2 (.ref 175))
noncomputable def Ep:Obj:=sq #[]
noncomputable def Es:Obj:=⟨.none,none,.fields #[],#[]⟩
noncomputable def Et:Obj:=sq #[(.str "starts" 405),(.str "roads" 406)]
noncomputable def Eu:Obj:=sq #[]
noncomputable def Ew:Obj:=fz "names_open" "names_open" (fU (aZ 29))
noncomputable def xx:Obj:=co #[(.str "names_open" 402),(.str "names_open" 403),(cp 404),(iv 109),(iv 2),(iv 0),(iv 0),(iv 3),(.ref 177),(.bool true),(iv 181),(.ref 178),.none,(.ref 179),(.ref 180),(.ref 181),(iv 407),(iv 109),(cp 408)]
noncomputable def xy:Obj:=fo (fq "names_open" LI m2 (.ref 182))
noncomputable def Ey:Obj:=sq #[]
noncomputable def Ez:Obj:=⟨.none,none,.fields #[],#[]⟩
noncomputable def EA:Obj:=sq #[(.str "_law_script" 415)]
noncomputable def EB:Obj:=sq #[]
noncomputable def EC:Obj:=fz "_law_feed" "_law_feed" (fU (aZ 31))
noncomputable def xB:Obj:=co #[(.str "_law_feed" 412),(.str "_law_feed" 413),(cp 414),(iv 116),(iv 1),(iv 0),(iv 0),(iv 3),(.ref 184),(.bool true),(iv 181),(.ref 185),.none,(.ref 186),(.ref 187),(.ref 188),(iv 416),(iv 116),(cp 417)]
noncomputable def xC:Obj:=fo (fq "_law_feed" LK m3 (.ref 189))
noncomputable def ED:Obj:=sq #[]
noncomputable def EE:Obj:=⟨.none,none,.fields #[],#[]⟩
noncomputable def EF:Obj:=sq #[(.str "_law_feed_here" 422),(.str "_law_k" 423)]
noncomputable def EG:Obj:=sq #[]
noncomputable def EH:Obj:=fz "_law_open" "_law_open" (fU (aZ 32))
noncomputable def xD:Obj:=co #[(.str "_law_open" 419),(.str "_law_open" 420),(cp 421),(iv 118),(iv 2),(iv 0),(iv 0),(iv 3),(.ref 191),(.bool true),(iv 181),(.ref 192),.none,(.ref 193),(.ref 194),(.ref 195),(iv 424),(iv 118),(cp 425)]
noncomputable def xE:Obj:=fo (fq "_law_open" LL m3 (.ref 196))
noncomputable def EI:Obj:=sq #[]
noncomputable def EJ:Obj:=⟨.none,none,.fields #[],#[]⟩
noncomputable def EK:Obj:=sq #[(.str "_law_feed_here" 430),(.str "_law_many" 431),(.str "_law_cell" 432),(.str "_law_turn" 433),(.str "_law_mixed" 434)]
noncomputable def EL:Obj:=sq #[]
noncomputable def EM:Obj:=fz "_law_draw" "_law_draw" (fU (aZ 33))
noncomputable def xF:Obj:=co #[(.str "_law_draw" 427),(.str "_law_draw" 428),(cp 429),(iv 123),(iv 2),(iv 0),(iv 0),(iv 3),(.ref 198),(.bool true),(iv 181),(.ref 199),.none,(.ref 200),(.ref 201),(.ref 202),(iv 435),(iv 123),(cp 436)]
noncomputable def xG:Obj:=fo (fq "_law_draw" LM m3 (.ref 203))
noncomputable def EN:Obj:=sq #[]
noncomputable def EO:Obj:=⟨.none,none,.fields #[],#[]⟩
noncomputable def ER:Obj:=fz "_law_move" "_law_move" (fU (aZ 34))
noncomputable def xH:Obj:=co #[(.str "_law_move" 438),(.str "_law_move" 439),(cp 440),(iv 132),(iv 5),(iv 0),(iv 0),(iv 3),(.ref 205),(.bool true),(iv 181),(.ref 206),.none,.none,.none,(.ref 207),(iv 441),(iv 132),(cp 442)]
noncomputable def xI:Obj:=fo (fq "_law_move" LN m3 (.ref 208))
noncomputable def ES(P:Params):Obj:=dc (.type "dict") #[en P "__name__" 165 (.str "law_cutstand_k78_forms_written" 410),en P "__doc__" 166 .none,en P "__package__" 167 .none,en P "__loader__" 168 (.builtin "__main__.__loader__#opaque"),en P "__spec__" 169 .none,en P "__annotations__" 170 (.ref 6),en P "__builtins__" 171 (.ref 4),en P "__file__" 173 (cp 172),en P "__cached__" 174 .none,en P "CutError" 206 (.ref 24),en P "NoText" 231 (.ref 44),en P "LONGEST_WORD" 235 (.int 8 234),en P "is_sign" 242 (.ref 53),en P "is_word" 248 (.ref 58),en P "form_lines" 264 (.ref 65),en P "move_line" 272 (.ref 72),en P "in_blanks" 278 (.ref 77),en P "pairs" 284 (.ref 82),en P "pair_text" 292 (.ref 89),en P "FIGURES" 296 (.str "0123456789" 295),en P "MOST_FIGURES" 298 (.int 9 297),en P "figures_in" 304 (.ref 94),en P "number_in" 311 (.ref 101),en P "sign_in" 318 (.ref 108),en P "cause_in" 325 (.ref 115),en P "word_in" 332 (.ref 122),en P "order_in" 339 (.ref 129),en P "pair_in" 350 (.ref 136),en P "send_in" 357 (.ref 143),en P "FORM_WORDS" 364 (.ref 144),en P "values_in" 376 (.ref 157),en P "first_word" 384 (.ref 164),en P "line_values" 395 (.ref 171),en P "read_form" 401 (.ref 176),en P "names_open" 409 (.ref 183),en P "_law_feed" 418 (.ref 190),en P "_law_open" 426 (.ref 197),en P "_law_draw" 437 (.ref 204),en P "_law_move" 443 (.ref 209),en P "_law_form" 461 (.ref 216),en P "_law_shifted" 467 (.ref 221),en P "_law_line" 473 (.ref 226),en P "_law_signed" 479 (.ref 231),en P "_law_form_lines" 498 (.ref 238),en P "_law_alike" 504 (.ref 243),en P "law" 510 (.ref 248)] 46
noncomputable def G3:Obj:=⟨.none,none,.fields #[(.int 2 0),(.int 0 0),(.ref 20),(.int 4 0),(.int 0 0),(.ref 33),(.int 10 0),(.int 0 0),(.ref 52),(.int 12 0),(.int 0 0),(.ref 57),(.int 17 0),(.int 0 0),(.ref 64),(.int 26 0),(.int 0 0),(.ref 71),(.int 29 0),(.int 0 0),(.ref 76),(.int 31 0),(.int 0 0),(.ref 81),(.int 33 0),(.int 0 0),(.ref 88),(.int 38 0),(.int 0 0),(.ref 93),(.int 44 0),(.int 0 0),(.ref 100),(.int 46 0),(.int 0 0),(.ref 107),(.int 50 0),(.int 0 0),(.ref 114),(.int 52 0),(.int 0 0),(.ref 121),(.int 58 0),(.int 0 0),(.ref 128),(.int 62 0),(.int 0 0),(.ref 135),(.int 65 0),(.int 0 0),(.ref 142),(.int 68 0),(.int 0 0),(.ref 156),(.int 81 0),(.int 0 0),(.ref 163),(.int 83 0),(.int 0 0),(.ref 170),(.int 90 0),(.int 0 0),(.ref 175),(.int 109 0),(.int 0 0),(.ref 182),(.int 116 0),(.int 0 0),(.ref 189),(.int 118 0),(.int 0 0),(.ref 196),(.int 123 0),(.int 0 0),(.ref 203),(.int 132 0),(.int 0 0),(.ref 208),(.int 140 0),(.int 0 0),(.ref 215),(.int 160 0),(.int 0 0),(.ref 220),(.int 166 0),(.int 0 0),(.ref 225),(.int 168 0),(.int 0 0),(.ref 230),(.int 170 0),(.int 0 0),(.ref 237),(.int 180 0),(.int 0 0),(.ref 242),(.int 190 0),(.int 0 0),(.ref 247)],#[]⟩
noncomputable def Ng:Obj:=sq #[]
noncomputable def Nh:Obj:=⟨.none,none,.fields #[],#[]⟩
noncomputable def Ni:Obj:=sq #[(.str "_law_feed_here" 447),(.str "_law_many" 448),(.str "_law_roads" 449),(.str "_law_k" 450),(.str "_law_one" 451),(.str "_law_other" 452),(.str "_law_rules" 453),(.str "_law_m" 454),(.str "_law_moves" 455),(.str "_law_state" 456),(.str "_law_cause" 457),(.str "_law_move_here" 458)]
noncomputable def Nj:Obj:=sq #[]
noncomputable def Nk:Obj:=fz "_law_form" "_law_form" (fU (aZ 35))
noncomputable def ET:Obj:=co #[(.str "_law_form" 444),(.str "_law_form" 445),(cp 446),(iv 140),(iv 1),(iv 0),(iv 0),(iv 3),(.ref 210),(.bool true),(iv 181),(.ref 211),.none,(.ref 212),(.ref 213),(.ref 214),(iv 459),(iv 140),(cp 460)]
noncomputable def EU:Obj:=fo (fq "_law_form" LO m3 (.ref 215))
noncomputable def Nl:Obj:=sq #[]
noncomputable def Nn:Obj:=⟨.none,none,.fields #[],#[]⟩
noncomputable def Np:Obj:=fz "_law_shifted" "_law_shifted" (fU (aZ 36))
noncomputable def EV:Obj:=co #[(.str "_law_shifted" 462),(.str "_law_shifted" 463),(cp 464),(iv 160),(iv 2),(iv 0),(iv 0),(iv 3),(.ref 217),(.bool true),(iv 181),(.ref 218),.none,.none,.none,(.ref 219),(iv 465),(iv 160),(cp 466)]
noncomputable def EW:Obj:=fo (fq "_law_shifted" LP m3 (.ref 220))
noncomputable def Nq:Obj:=sq #[]
noncomputable def Nr:Obj:=⟨.none,none,.fields #[],#[]⟩
noncomputable def Nt:Obj:=fz "_law_line" "_law_line" (fU (aZ 37))
noncomputable def EY:Obj:=co #[(.str "_law_line" 468),(.str "_law_line" 469),(cp 470),(iv 166),(iv 1),(iv 0),(iv 0),(iv 3),(.ref 222),(.bool true),(iv 181),(.ref 223),.none,.none,.none,(.ref 224),(iv 471),(iv 166),(cp 472)]
noncomputable def EZ:Obj:=fo (fq "_law_line" LQ m3 (.ref 225))
noncomputable def Nu:Obj:=sq #[]
noncomputable def Nv:Obj:=⟨.none,none,.fields #[],#[]⟩
noncomputable def Nw:Obj:=fz "_law_signed" "_law_signed" (fU (aZ 38))
noncomputable def E1:Obj:=co #[(.str "_law_signed" 474),(.str "_law_signed" 475),(cp 476),(iv 168),(iv 1),(iv 0),(iv 0),(iv 3),(.ref 227),(.bool true),(iv 181),(.ref 228),.none,.none,.none,(.ref 229),(iv 477),(iv 168),(cp 478)]
noncomputable def E2:Obj:=fo (fq "_law_signed" LR m3 (.ref 230))
noncomputable def Nx:Obj:=sq #[]
noncomputable def Ny:Obj:=⟨.none,none,.fields #[],#[]⟩
noncomputable def Nz:Obj:=sq #[(.str "_law_form_here" 483),(.str "_law_lines" 484),(.str "_law_start" 485),(.str "_law_moves" 486),(.str "_law_state" 487),(.str "_law_cause" 488),(.str "_law_later" 489),(.str "_law_sends" 490),(.str "_law_word" 491),(.str "_law_spoken" 492),(.str "_law_one" 493),(.str "_law_other" 494),(.str "_law_order" 495)]
noncomputable def NA:Obj:=sq #[]
noncomputable def NB:Obj:=fz "_law_form_lines" "_law_form_lines" (fU (aZ 39))
noncomputable def E3:Obj:=co #[(.str "_law_form_lines" 480),(.str "_law_form_lines" 481),(cp 482),(iv 170),(iv 1),(iv 0),(iv 0),(iv 3),(.ref 232),(.bool true),(iv 181),(.ref 233),.none,(.ref 234),(.ref 235),(.ref 236),(iv 496),(iv 170),(cp 497)]
noncomputable def E4:Obj:=fo (fq "_law_form_lines" LS m3 (.ref 237))
noncomputable def NC:Obj:=sq #[]
noncomputable def ND:Obj:=⟨.none,none,.fields #[],#[]⟩
noncomputable def NF:Obj:=fz "_law_alike" "_law_alike" (fU (aZ 40))
noncomputable def E5:Obj:=co #[(.str "_law_alike" 499),(.str "_law_alike" 500),(cp 501),(iv 180),(iv 2),(iv 0),(iv 0),(iv 3),(.ref 239),(.bool true),(iv 181),(.ref 240),.none,.none,.none,(.ref 241),(iv 502),(iv 180),(cp 503)]
noncomputable def E6:Obj:=fo (fq "_law_alike" LU m3 (.ref 242))
noncomputable def NG:Obj:=sq #[]
noncomputable def NH:Obj:=⟨.none,none,.fields #[],#[]⟩
noncomputable def NI:Obj:=fz "law" "law" (fU (aZ 41))
noncomputable def E7:Obj:=co #[(.str "law" 505),(.str "law" 506),(cp 507),(iv 190),(iv 1),(iv 0),(iv 0),(iv 3),(.ref 244),(.bool true),(iv 181),(.ref 245),.none,.none,.none,(.ref 246),(iv 508),(iv 190),(cp 509)]
noncomputable def E8:Obj:=fo (fq "law" GG m3 (.ref 247))
noncomputable def Xy(P:Params):PySem.W.BT:=(nd (PySem.W.boot_o_0 P) (nd (PySem.W.boot_o_1 P) (nd (PySem.W.boot_o_3 P) (lf (PySem.W.boot_o_7 P)) (lf GH)) (nd (PySem.W.boot_o_5 P) (lf (PySem.W.boot_o_9 P)) (lf GI))) (nd (PySem.W.boot_o_2 P) (nd (PySem.W.boot_o_4 P) (lf (PySem.W.boot_o_8 P)) (lf Ss)) (nd (PySem.W.boot_o_6 P) (lf (PySem.W.boot_o_10 P)) (lf GJ))))
noncomputable def Xz(P:Params):PySem.W.BT:=(nd (PySem.W.boot_o_0 P) (nd (PySem.W.boot_o_1 P) (nd (Xx P) (nd (PySem.W.boot_o_7 P) (nd LV (nd Mb (nd MG (lf DW) (lf ED)) (nd M_ (lf Ec) .nil)) (nd Ms (nd MR (lf w_) (lf ER)) (nd DK (lf xu) .nil))) (nd (L4 P) (nd Mk (nd GS (lf wZ) (lf EJ)) (nd DE (lf Ei) .nil)) (nd MA (nd MX (lf D7) .nil) (nd DQ (lf xy) .nil)))) (nd GH (nd LZ (nd Mg (nd MI (lf DY) (lf EH)) (nd Nd (lf xo) .nil)) (nd My (nd MT (lf xi) .nil) (nd wU (lf Et) .nil))) (nd L8 (nd (Mo P) (nd MP (lf D4) (lf xF)) (nd wN (lf xt) .nil)) (nd MC (nd MZ (lf Ea) .nil) (nd DS (lf EB) .nil))))) (nd (PySem.W.boot_o_5 P) (nd (PySem.W.boot_o_9 P) (nd (LX P) (nd Md (nd GR (lf wY) (lf EF)) (nd Nb (lf Ee) .nil)) (nd Mu (nd GX (lf xb) (lf xI)) (nd DM (lf Ep) .nil))) (nd L6 (nd Mm (nd MM (lf D2) (lf EL)) (nd DG (lf Ek) .nil)) (nd GO (nd G0 (lf D9) .nil) (nd wV (lf Ez) .nil)))) (nd GI (nd L1 (nd Mi (nd MK (lf D0) (lf xE)) (nd wM (lf Eg) .nil)) (nd GN (nd MV (lf xk) .nil) (nd DO (lf Ew) .nil))) (nd L_ (nd Mq (nd GW (lf D6) (lf EN)) (nd DI (lf Em) .nil)) (nd ME (nd G1 (lf xn) .nil) (nd DU (lf xB) .nil)))))) (nd (PySem.W.boot_o_2 P) (nd (PySem.W.boot_o_4 P) (nd (PySem.W.boot_o_8 P) (nd LW (nd Mc (nd GQ (lf wX) (lf EE)) (nd Na (lf Ed) .nil)) (nd Mt (nd MS (lf (xa P)) (lf xH)) (nd DL (lf xv) .nil))) (nd L5 (nd Ml (nd GU (lf w4) (lf EK)) (nd DF (lf Ej) .nil)) (nd MB (nd GZ (lf D8) .nil) (nd DR (lf Ey) .nil)))) (nd GK (nd L0 (nd Mh (nd MJ (lf DZ) (lf xD)) (nd wL (lf xq) .nil)) (nd GL (nd MU (lf xj) .nil) (nd DN (lf Eu) .nil))) (nd L9 (nd Mp (nd GV (lf D5) (lf xG)) (nd wQ (lf El) .nil)) (nd MD (nd M9 (lf xm) .nil) (nd DT (lf EC) .nil))))) (nd (PySem.W.boot_o_6 P) (nd (PySem.W.boot_o_10 P) (nd LY (nd Mf (nd MH (lf DX) (lf EG)) (nd Nc (lf Ef) .nil)) (nd Mx (nd GY (lf xh) .nil) (nd wR (lf Es) .nil))) (nd L7 (nd Mn (nd MN (lf D3) (lf EM)) (nd DH (lf xr) .nil)) (nd GP (nd MY (lf D_) .nil) (nd wW (lf EA) .nil)))) (nd GJ (nd L3 (nd Mj (nd ML (lf D1) (lf EI)) (nd DD (lf Eh) .nil)) (nd Mz (nd MW (lf xl) .nil) (nd DP (lf xx) .nil))) (nd (Ma P) (nd Mr (nd MQ (lf w6) (lf EO)) (nd DJ (lf Eo) .nil)) (nd MF (nd G2 (lf Eb) .nil) (nd DV (lf xC) .nil)))))))
noncomputable def E9(P:Params):PySem.W.BT:=(nd (PySem.W.boot_o_0 P) (nd (PySem.W.boot_o_1 P) (nd (ES P) (nd (PySem.W.boot_o_7 P) (nd LV (nd Mb (nd MG (lf DW) (lf ED)) (nd M_ (lf Ec) (lf Nr))) (nd Ms (nd MR (lf w_) (lf ER)) (nd DK (lf xu) (lf NC)))) (nd (L4 P) (nd Mk (nd GS (lf wZ) (lf EJ)) (nd DE (lf Ei) (lf E2))) (nd MA (nd MX (lf D7) (lf ET)) (nd DQ (lf xy) (lf E7))))) (nd GH (nd LZ (nd Mg (nd MI (lf DY) (lf EH)) (nd Nd (lf xo) (lf Nu))) (nd My (nd MT (lf xi) (lf Nh)) (nd wU (lf Et) (lf E6)))) (nd L8 (nd (Mo P) (nd MP (lf D4) (lf xF)) (nd wN (lf xt) (lf NA))) (nd MC (nd MZ (lf Ea) (lf Np)) (nd DS (lf EB) .nil))))) (nd (PySem.W.boot_o_5 P) (nd (PySem.W.boot_o_9 P) (nd (LX P) (nd Md (nd GR (lf wY) (lf EF)) (nd Nb (lf Ee) (lf EY))) (nd Mu (nd GX (lf xb) (lf xI)) (nd DM (lf Ep) (lf NF)))) (nd L6 (nd Mm (nd MM (lf D2) (lf EL)) (nd DG (lf Ek) (lf Ny))) (nd GO (nd G0 (lf D9) (lf Nl)) (nd wV (lf Ez) .nil)))) (nd GI (nd L1 (nd Mi (nd MK (lf D0) (lf xE)) (nd wM (lf Eg) (lf Nw))) (nd GN (nd MV (lf xk) (lf Nj)) (nd DO (lf Ew) (lf NH)))) (nd L_ (nd Mq (nd GW (lf D6) (lf EN)) (nd DI (lf Em) (lf E3))) (nd ME (nd G1 (lf xn) (lf EW)) (nd DU (lf xB) .nil)))))) (nd (PySem.W.boot_o_2 P) (nd (PySem.W.boot_o_4 P) (nd (PySem.W.boot_o_8 P) (nd LW (nd Mc (nd GQ (lf wX) (lf EE)) (nd Na (lf Ed) (lf Nt))) (nd Mt (nd MS (lf (xa P)) (lf xH)) (nd DL (lf xv) (lf ND)))) (nd L5 (nd Ml (nd GU (lf w4) (lf EK)) (nd DF (lf Ej) (lf Nx))) (nd MB (nd GZ (lf D8) (lf EU)) (nd DR (lf Ey) (lf E8))))) (nd G3 (nd L0 (nd Mh (nd MJ (lf DZ) (lf xD)) (nd wL (lf xq) (lf Nv))) (nd GL (nd MU (lf xj) (lf Ni)) (nd DN (lf Eu) (lf NG)))) (nd L9 (nd Mp (nd GV (lf D5) (lf xG)) (nd wQ (lf El) (lf NB))) (nd MD (nd M9 (lf xm) (lf EV)) (nd DT (lf EC) .nil))))) (nd (PySem.W.boot_o_6 P) (nd (PySem.W.boot_o_10 P) (nd LY (nd Mf (nd MH (lf DX) (lf EG)) (nd Nc (lf Ef) (lf EZ))) (nd Mx (nd GY (lf xh) (lf Ng)) (nd wR (lf Es) (lf E5)))) (nd L7 (nd Mn (nd MN (lf D3) (lf EM)) (nd DH (lf xr) (lf Nz))) (nd GP (nd MY (lf D_) (lf Nn)) (nd wW (lf EA) .nil)))) (nd GJ (nd L3 (nd Mj (nd ML (lf D1) (lf EI)) (nd DD (lf Eh) (lf E1))) (nd Mz (nd MW (lf xl) (lf Nk)) (nd DP (lf xx) (lf NI)))) (nd (Ma P) (nd Mr (nd MQ (lf w6) (lf EO)) (nd DJ (lf Eo) (lf E4))) (nd MF (nd G2 (lf Eb) (lf Nq)) (nd DV (lf xC) .nil)))))))
noncomputable def Kf(P:Params):PySem.W.Frag:=[(3,ES P),(52,GL),(53,GN),(57,GO),(58,GP),(64,GQ),(65,GR),(71,GS),(72,GU),(76,GV),(77,GW),(81,GX),(82,GY),(88,GZ),(89,G0),(93,G1),(94,G2),(100,wL),(101,wM),(107,wN),(108,wQ),(114,wR),(115,wU),(121,wV),(122,wW),(128,wX),(129,wY),(135,wZ),(136,w4),(142,w6),(143,w_),(156,xm),(157,xn),(163,xo),(164,xq),(170,xr),(171,xt),(175,xu),(176,xv),(182,xx),(183,xy),(189,xB),(190,xC),(196,xD),(197,xE),(203,xF),(204,xG),(208,xH),(209,xI),(215,ET),(216,EU),(220,EV),(221,EW),(225,EY),(226,EZ),(230,E1),(231,E2),(237,E3),(238,E4),(242,E5),(243,E6),(247,E7),(248,E8),(144,xa P),(146,xh),(145,xb),(148,xj),(147,xi),(150,xl),(149,xk)]
noncomputable def ads:List Addr:=[3,52,53,57,58,64,65,71,72,76,77,81,82,88,89,93,94,100,101,107,108,114,115,121,122,128,129,135,136,142,143,156,157,163,164,170,171,175,176,182,183,189,190,196,197,203,204,208,209,215,216,220,221,225,226,230,231,237,238,242,243,247,248,144,146,145,148,147,150,149]
def vw:Program:={PySem.Challenge.pw_cutstand_k78_forms_written with main:={PySem.Challenge.pw_cutstand_k78_forms_written.main with body:=[aZ 1,aZ 2,aZ 4,aZ 5,aZ 6,aZ 8,aZ 9,aZ 10,aZ 11,aZ 12,aZ 14,aZ 15,aZ 16,aZ 17,aZ 18,aZ 19,aZ 20,aZ 21,aZ 22,aZ 23,aZ 24,aZ 25,aZ 26,aZ 27,aZ 28,aZ 29,aZ 31,aZ 32,aZ 33,aZ 34,aZ 35,aZ 36,aZ 37,aZ 38,aZ 39,aZ 40,aZ 41]}}
noncomputable def hk:PySem.W.Hook:=PySem.W.kHook Kf ads (λ_=>nofun)
theorem G4:PySem.W.OpenLaw.wellSaid PySem.Challenge.rw_cutstand_k78_forms_written=true:=nofun
noncomputable def E_(w:World)(os:OsState):PySem.W.SharedT:=⟨Xy w.params,15,{},#[],{},187,os⟩
noncomputable def st1(w:World)(os:OsState):PySem.W.SharedT:=⟨Xz w.params,210,{},#[],{},444,os⟩
noncomputable def jW(w:World)(os:OsState):PySem.W.SharedT:=⟨E9 w.params,249,{},#[],{},511,os⟩
noncomputable def Su:List Stmt:=[aZ 0,aZ 1,aZ 2,aZ 3,aZ 4,aZ 5,aZ 6,aZ 7,aZ 8,aZ 9,aZ 10,aZ 11,aZ 12,aZ 13,aZ 14,aZ 15,aZ 16,aZ 17,aZ 18,aZ 19,aZ 20,aZ 21,aZ 22,aZ 23,aZ 24,aZ 25,aZ 26,aZ 27,aZ 28,aZ 29,aZ 30,aZ 31,aZ 32,aZ 33,aZ 34]
noncomputable def V4:List Stmt:=[aZ 35,aZ 36,aZ 37,aZ 38,aZ 39,aZ 40,aZ 41]
noncomputable def V5:List Stmt:=Su++(V4++[])
noncomputable def NJ:Env:={scope:=PySem.Challenge.pw_cutstand_k78_forms_written.main.scope,locals:=mainNs,globals:=mainNs,cells:=[],code:=(.ref 13),frame:=some 14}
noncomputable abbrev xJ:Code:=.body V5 NJ
noncomputable abbrev xM:Pos:=⟨0,0,0,0⟩
noncomputable abbrev Fa:Option Value:=(some (.ref 6))
theorem Fb:∀w,(PySem.W.fencedOpening treeTable PySem.Challenge.pw_cutstand_k78_forms_written w 3132).map (λs=>(s.heap,s.gens,s.drawn,s.toks))=some (PySem.W.boot_heap w.params,#[],PySem.W.boot_drawn,PySem.W.boot_toks):=PySem.W.boot_open (nofun) (nofun) λs=>nofun
theorem XA:∀w:World,((PySem.W.boot_heap w.params).isNs mainGlobals&&(#[]:Array GenState).size==0,(PySem.W.boot_heap w.params).objs.size,(PySem.W.boot_heap w.params).nsMap mainGlobals "__annotations__")=(true,11,Fa):=by
 intro w
 kernel_rfl
theorem pg:∀(w:World)(os:OsState),PySem.W.topGo treeTable PySem.Challenge.pw_cutstand_k78_forms_written w 11 Fa 12 ⟨PySem.W.boot_heap w.params,#[],PySem.W.boot_drawn,PySem.W.boot_toks,os⟩ (PySem.W.topStub PySem.Challenge.pw_cutstand_k78_forms_written)=some ((E_ w os).abs,⟨denote treeTable xJ,xJ,xM,[PySem.W.topFrame xM]⟩):=by
 intro w os
 kernel_rfl
theorem bl:∀(w:World)(os:OsState),PySem.W.segRun treeTable PySem.Challenge.pw_cutstand_k78_forms_written w 11 Fa 1 1 (E_ w os).abs (PySem.W.blockOf V5 NJ xJ xM [PySem.W.topFrame xM])=some (.next,(E_ w os).abs,xJ,xM):=by
 intro w os
 kernel_rfl
theorem XB:∀(b:Bool)(w:World)(os:OsState),PySem.W.segRunT treeTable PySem.Challenge.pw_cutstand_k78_forms_written (w.withFollow "special-get-raises" b) 11 Fa 1 1293 (E_ (w.withFollow "special-get-raises" b) os) (PySem.W.piecesOf Su NJ xJ xM [PySem.W.topFrame xM])=some (.next,st1 (w.withFollow "special-get-raises" b) os,xJ,⟨132,0,139,95⟩):=by
 intro b w os;cases b<;>kernel_rfl
theorem XC:∀(w:World)(os:OsState),PySem.W.segRunT treeTable PySem.Challenge.pw_cutstand_k78_forms_written w 11 Fa 1 1293 (E_ w os) (PySem.W.piecesOf Su NJ xJ xM [PySem.W.topFrame xM])=some (.next,st1 w os,xJ,⟨132,0,139,95⟩):=by
 intro w os;have h:=XB (w.params.followText "special-get-raises") w os;rw[PySem.World.withFollow_self]at h;exact h
theorem XD:∀(w:World)(os:OsState),PySem.W.segRunT treeTable PySem.Challenge.pw_cutstand_k78_forms_written w 11 Fa 1 212 (st1 w os) (PySem.W.piecesOf V4 NJ xJ (⟨132,0,139,95⟩:Pos) [PySem.W.topFrame xM])=some (.next,jW w os,xJ,⟨190,0,209,15⟩):=by
 intro w os
 kernel_rfl
theorem fn:∀(w:World)(os:OsState),PySem.W.topRun treeTable PySem.Challenge.pw_cutstand_k78_forms_written w 11 Fa 2 (jW w os).abs ⟨PySem.W.doneF .next,xJ,(⟨190,0,209,15⟩:Pos),[PySem.W.topFrame xM]⟩=some (jW w os).abs:=by
 intro w os
 kernel_rfl
theorem Sv:∀(w:World)(os:OsState),PySem.W.topRun treeTable PySem.Challenge.pw_cutstand_k78_forms_written w 11 Fa (12+(1+(1293+(212+(2))))) ⟨PySem.W.boot_heap w.params,#[],PySem.W.boot_drawn,PySem.W.boot_toks,os⟩ (PySem.W.topStub PySem.Challenge.pw_cutstand_k78_forms_written)=some (jW w os).abs:=λw os=>PySem.W.go_top (pg w os) (PySem.W.piece_block (bl w os) (PySem.W.piece_app (PySem.W.segRun_of (XC w os)) (PySem.W.piece_app (PySem.W.segRun_of (XD w os)) (PySem.W.piece_nil (fn w os)))))
theorem XE:∀(w:World)(os:OsState),(PySem.W.staticsOk (importedModules PySem.Challenge.pw_cutstand_k78_forms_written.main.body) (PySem.W.boot_heap w.params) (PySem.W.absHeap (E9 w.params) 249 {})&&PySem.W.namesBound PySem.Challenge.pw_cutstand_k78_forms_written (PySem.W.absHeap (E9 w.params) 249 {})&&PySem.W.gensDone (⟨PySem.W.absHeap (E9 w.params) 249 {},#[],{},511,os⟩:Shared)&&PySem.W.laidKept (PySem.W.boot_heap w.params) (PySem.W.absHeap (E9 w.params) 249 {}))=true:=by
 intro w os
 kernel_rfl
theorem XF:∀(w:World)(os:OsState),PySem.W.openSeen vw ["FORM_WORDS"] (importedModules PySem.Challenge.pw_cutstand_k78_forms_written.main.body) (λs=>PySem.W.xlAt vw [] s&&PySem.W.recOk [] s) true (⟨PySem.W.absHeap (E9 w.params) 249 {},#[],{},511,os⟩:Shared)=PySem.W.openGood vw ["FORM_WORDS"]:=by
 intro w os
 kernel_rfl
theorem XG:∀(w:World)(os:OsState),PySem.W.Hook.obs hk (⟨PySem.W.absHeap (E9 w.params) 249 {},#[],{},511,os⟩:Shared)=PySem.W.Hook.val hk w:=by
 intro w os
 kernel_rfl
theorem XH:PySem.W.LeftO PySem.Challenge.pw_cutstand_k78_forms_written vw ["FORM_WORDS"] (λs=>PySem.W.xlAt vw [] s&&PySem.W.recOk [] s) (PySem.W.Hook.obs hk) (PySem.W.Hook.val hk) 3132 :=
 PySem.W.LeftO.of_pieces (H₀:=PySem.W.boot_heap) (H₁:=λP=>PySem.W.absHeap (E9 P) 249 {}) Fb XA Sv rfl λw=>funext λos=>Prod.ext (XE w os) (Prod.ext (XF w os) (XG w os))
end eU
end
section
namespace L2
open PySem PySem.Spec PyProof.Rows
abbrev bZ:=Sum Int Str
noncomputable def mj:bZ->Value->Bool
 | .inl k,v=>Value.isInt k v
 | .inr x,v=>Value.isStrOf x v
noncomputable def Sw(w:World):bZ->Int
 | .inl k=>hashInt k
 | .inr x=>hashStr w x
theorem bV:∀{k:bZ}{v:Value},mj k v=true->(∃i t,k=Sum.inl i/\v=Value.int i t)\/(∃x t,k=Sum.inr x/\v=Value.str x t)
 | .inl i,v,h=>by
  obtain⟨t,e⟩:=Value.isInt_shape (k:=i) (v:=v) h;exact .inl ⟨i,t,rfl,e⟩
 | .inr x,v,h=>by
  obtain⟨t,e⟩:=Value.isStrOf_shape (x:=x) (v:=v) h;exact .inr ⟨x,t,rfl,e⟩
theorem uT(i:Int)(t:Tok):mj (.inl i) (.int i t)=true:=by simp[mj,Value.isInt]
theorem uU(x:Str)(t:Tok):mj (.inr x) (.str x t)=true:=by simp[mj,Value.isStrOf]
theorem G5(a b:Int):decide ((Sum.inl a:bZ)=Sum.inl b)=(a==b):=by
 by_cases e:a=b
 ·subst e;simp
 ·have h:¬(Sum.inl a:bZ)=Sum.inl b:=λq=>e (Sum.inl.inj q);rw[c_ h];exact(m7.mpr e).symm
theorem G6(a b:Str):decide ((Sum.inr a:bZ)=Sum.inr b)=decide (a=b):=by
 by_cases e:a=b
 ·subst e;simp
 ·have h:¬(Sum.inr a:bZ)=Sum.inr b:=λq=>e (Sum.inr.inj q);rw[c_ h,c_ e]
theorem G7(a:Int)(b:Str):decide ((Sum.inl a:bZ)=Sum.inr b)=false:=c_ (λq=>nomatch q)
theorem G8(a:Str)(b:Int):decide ((Sum.inr a:bZ)=Sum.inl b)=false:=c_ (λq=>nomatch q)
def bG(prog:Program)(w:World):PySem.KeyKind prog w bZ where
 is:=mj
 hash:=Sw w
 inj:=λv a b ha hb=>by
  rcases bV ha with⟨i,t,rfl,rfl⟩|⟨x,t,rfl,rfl⟩
  ·rcases bV hb with⟨j,u,rfl,e⟩|⟨y,u,rfl,e⟩
   ·injection e with e1 _;rw[e1]
   ·exact nomatch e
  ·rcases bV hb with⟨j,u,rfl,e⟩|⟨y,u,rfl,e⟩
   ·exact nomatch e
   ·injection e with e1 _;rw[e1]
 byValue:=λk v h=>by
  rcases bV h with⟨i,t,rfl,rfl⟩|⟨x,t,rfl,rfl⟩<;>rfl
 pyHash:=λhv h=>by
  rcases bV hv with⟨i,t,rfl,rfl⟩|⟨x,t,rfl,rfl⟩
  ·exact wpAny_pyHash_int h
  ·exact wpAny_pyHash_str h
 eqBool:=λhu hv h=>by
  rcases bV hu with⟨i,t,rfl,rfl⟩|⟨x,t,rfl,rfl⟩
  ·rcases bV hv with⟨j,u,rfl,rfl⟩|⟨y,u,rfl,rfl⟩
   ·rw[G5]at h;exact wpAny_eqBool_int h
   ·rw[G7]at h;exact SeqAt.EqAt.int_str i t y u _ _ _ _ h
  ·rcases bV hv with⟨j,u,rfl,rfl⟩|⟨y,u,rfl,rfl⟩
   ·rw[G8]at h;exact SeqAt.EqAt.str_int x t j u _ _ _ _ h
   ·rw[G6]at h;exact wpAny_eqBool_str h
 «strs»:=λk x t v h=>by
  rcases bV h with⟨i,u,rfl,e⟩|⟨y,u,rfl,e⟩
  ·exact nomatch e
  ·injection e with e1 _;subst e1;cases v<;>rfl
theorem oU(prog:Program)(w:World)(i:Int)(t:Tok):(bG prog w).is (.inl i) (.int i t)=true:=uT i t
theorem fV(prog:Program)(w:World)(x:Str)(t:Tok):(bG prog w).is (.inr x) (.str x t)=true:=uU x t
inductive V where
 | ba | bl (b:Bool) | int (i:Int) | str (x:Str) | NK (b:Array UInt8) | La (b:UInt64) | ref (a:Addr) | ty (n:String)
 deriving DecidableEq
noncomputable def RelV:V->Value->Prop
 | .ba,u=>u=Value.none
 | .bl b,u=>u=Value.bool b
 | .int i,u=>∃t,u=Value.int i t
 | .str x,u=>∃t,u=Value.str x t
 | .NK b,u=>∃t,u=Value.bytes b t
 | .La b,u=>∃t,u=Value.float b t
 | .ref a,u=>u=Value.ref a
 | .ty n,u=>u=Value.type n
abbrev aE:List V->List Value->Prop:=Paired RelV
theorem aE.length{xs:List V}{us:List Value}(r:aE xs us):xs.length=us.length:=Paired.length r
theorem aE.get:∀{xs:List V}{us:List Value}{i:Nat}{x:V},aE xs us->xs[i]?=some x->∃u,us[i]?=some u/\RelV x u
 | _,_,_,_,.nil,e=>by simp at e
 | _,_,0,_,.cons r _,e=>by simp at e;subst e;exact⟨_,rfl,r⟩
 | _,_,i+1,x,.cons _ t,e=>by
  obtain⟨u,h1,h2⟩:=aE.get (i:=i) (x:=x) t (by simpa using e);exact⟨u,by simpa using h1,h2⟩
theorem aE.set{x:V}{u:Value}(r:RelV x u):∀{xs:List V}{us:List Value}(i:Nat),aE xs us->aE (xs.set i x) (us.set i u)
 | _,_,_,.nil=>.nil
 | _,_,0,.cons _ t=>.cons r t
 | _,_,i+1,.cons q t=>.cons q (aE.set r i t)
theorem aE.append:∀{xs ys:List V}{us ws:List Value},aE xs us->aE ys ws->aE (xs++ys) (us++ws)
 | _,_,_,_,.nil,s=>s
 | _,_,_,_,.cons r t,s=>.cons r (aE.append t s)
theorem aE.take:∀{xs:List V}{us:List Value}(n:Nat),aE xs us->aE (xs.take n) (us.take n)
 | _,_,0,_=>.nil
 | _,_,_+1,.nil=>.nil
 | _,_,n+1,.cons r t=>.cons r (aE.take n t)
theorem aE.drop:∀{xs:List V}{us:List Value}(n:Nat),aE xs us->aE (xs.drop n) (us.drop n)
 | _,_,0,r=>r
 | _,_,_+1,.nil=>.nil
 | _,_,n+1,.cons _ t=>aE.drop n t
def ki:Option V->Option Value->Prop
 | some v,some u=>RelV v u
 | none,none=>True
 | _,_=>False
def KV{κ:Type}:List (κ×V)->List (κ×Value)->Prop:=Paired λ(p:κ×V) (q:κ×Value)=>p.1=q.1/\RelV p.2 q.2
noncomputable def kV:bZ->V
 | .inl i=>.int i
 | .inr x=>.str x
inductive HO where
 | lst (xs:List V)
 | tup (xs:List V)
 | dK (ao:List (bZ×V)) | dT (ao:List (List bZ×V))
 | set (S:Int->Bool) (n:Nat)
 | ins (C dx:Addr) (fs:List (Str×V))
 | own (x:Addr)
 | xd (fs:List (Str×V))
 | met (f x:Addr)
 | iZ (lo hi:Int)
 | fP (o:Obj) (u:HO)
 | xN (ps:Array Value)
 | ext (φ:Heap->Prop)
abbrev Hp:=Addr->Option HO
noncomputable def bH(H:Hp)(a:Addr)(o:HO):Hp:=λb=>if b=a then some o else H b
theorem bW{H:Hp}{a:Addr}{o:HO}:bH H a o a=some o:=by unfold bH;rw[aG rfl]
theorem ax{H:Hp}{a b:Addr}{o:HO}(h:b≠a):bH H a o b=H b:=by unfold bH;rw[aT h]
theorem NL{H:Hp}{a b:Addr}{o u:HO}(h:H a=some o)(h':H b=some u)(d:o≠u):a≠b:=by
 intro e;subst e;rw[h]at h';exact d (cH h')
theorem ed{H:Hp}{a b:Addr}{o:HO}(h:H a=some o)(h':H b=none):a≠b:=by
 intro e;subst e;rw[h]at h';cases h'
section
variable (P:Program) (w:World)
def bX(H:Hp)(h:Heap)(a:Addr):HO->Prop
  | .lst xs=>xs.length<=sizeLine/\∃(ar:List Value) (n:Nat),aE xs ar/\h.get? a=some {cls:=.type "list",data:=.seq ar.toArray n}
  | .tup xs=>xs.length<=sizeLine/\∃ar:List Value,aE xs ar/\IsTup h a ar.toArray
  | .dK ao=>ao.length<=sizeLine/\(a==sysModules)=false/\∃vs,KV ao vs/\h.DictOf (bG P w) a vs
  | .dT ao => ao.length <= sizeLine /\ (a == sysModules) = false /\ ∃ xs : List (List bZ × Addr × Value),
      Paired (λ(p:List bZ×V) (q:List bZ×Addr×Value)=>p.1=q.1/\H q.2.1=some (.tup (p.1.map kV))/\RelV p.2 q.2.2) ao xs /\
      ∃o es ep,h.get? a=some o/\o.ExactDict/\o.data=.dict es ep/\es.toList=xs.map (entryOfKey (tupleKind (bG P w)))/\(xs.map (·.1)).Nodup
  | .set S n=>h.SetOf (intKind P w) a S n
  | .ins C dx fs => H dx = some (.own a) /\ fs.length <= 1000 /\ dx ≠ a /\ h.get? a = some (PySem.W.instObj C dx) /\
      ∃mA,h.Ns1 dx mA/\(∀f,ki (fs.lookup f) (mA f))/\PySem.Within mA (fs.map (·.1))
  | .own _=>∃o,h.get? a=some o
  | .xd fs=>∃mA,h.Ns1 a mA/\∀f,ki (fs.lookup f) (mA f)
  | .iZ lo hi=>∃t u v,h.get? a=some {cls:=.type "range",data:=.fields #[.int lo t,.int hi u,.int 1 v]}
  | .fP o u=>h.get? a=some o/\bX H h a u
  | .xN ps=>h.get? a=some {cls:=.none,data:=.fields ps}
  | .met f x=>h.get? a=some (PySem.W.methodObj (.ref f) (.ref x))
  | .ext φ=>φ h/\(∃o,h.get? a=some o)/\∀h1 h2:Heap,φ h1->(∀o,h1.get? a=some o->h2.get? a=some o)->φ h2
def gO(H:Hp)(h:Heap):Prop:=∀a o,H a=some o->bX P w H h a o
end
section
variable {P:Program} {w:World} {H H':Hp} {h h':Heap} {a:Addr} {o:HO}
theorem bX.lt(x:bX P w H h a o):a<h.objs.size:=by
 cases o with
 | lst xs=>obtain⟨_,_,_,_,e⟩:=x;exact cg e
 | tup xs=>obtain⟨_,_,_,p⟩:=x;exact p.lt
 | dK ao=>obtain⟨_,_,_,_,o,_,_,e,_⟩:=x;exact cg e
 | dT ao=>obtain⟨_,_,_,_,o,_,_,e,_⟩:=x;exact cg e
 | set S n=>obtain⟨o,_,_,_,e,_⟩:=x;exact cg e
 | ins C dx fs=>obtain⟨_,_,_,e,_⟩:=x;exact cg e
 | own y=>obtain⟨_,e⟩:=x;exact cg e
 | xd fs=>obtain⟨_,⟨_,_,_,e,_⟩,_⟩:=x;exact cg e
 | iZ lo hi=>obtain⟨_,_,_,e⟩:=x;exact cg e
 | fP ob u=>obtain⟨e,_⟩:=x;exact cg e
 | xN ps=>exact cg (show h.get? a=some _ from x)
 | met f y=>exact cg (show h.get? a=some _ from x)
 | ext φ=>obtain⟨_,⟨_,e⟩,_⟩:=x;exact cg e
theorem Paired.NM{α β:Type}{F G:α->β->Prop}{NN:List α}{NO:List β}(p:Paired F NN NO)(f:∀a b,F a b->G a b):Paired G NN NO:=by
 induction p with
 | nil=>exact .nil
 | cons r t ih=>exact .cons (f _ _ r) ih
theorem bX.uV(x:bX P w H h a o)(k:∀b u,(b=a\/H b=some (.own a))->h.get? b=some u->h'.get? b=some u)(ho:∀b,H b=some (.own a)->H' b=some (.own a))(ht:∀b xs,H b=some (.tup xs)->H' b=some (.tup xs)):bX P w H' h' a o:=by
 induction o with
 | lst xs=>obtain⟨z,ar,n,r,e⟩:=x;exact⟨z,ar,n,r,k _ _ (.inl rfl) e⟩
 | tup xs=>obtain⟨z,ar,r,ob,e,c⟩:=x;exact⟨z,ar,r,ob,k _ _ (.inl rfl) e,c⟩
 | dK ao=>obtain⟨z,y,vs,r,ob,es,ep,e,c⟩:=x;exact⟨z,y,vs,r,ob,es,ep,k _ _ (.inl rfl) e,c⟩
 | dT ao =>
  obtain⟨z,y,xs,r,ob,es,ep,e,c⟩:=x;exact⟨z,y,xs,Paired.NM r λp q z=>⟨z.1,ht _ _ z.2.1,z.2.2⟩,ob,es,ep,k _ _ (.inl rfl) e,c⟩
 | set S n=>obtain⟨ob,es,ep,t,e,c⟩:=x;exact⟨ob,es,ep,t,k _ _ (.inl rfl) e,c⟩
 | ins C dx fs =>
  obtain⟨d,z,ne,e,mA,⟨od,es,ep,e2,c⟩,r⟩:=x;exact⟨ho _ d,z,ne,k _ _ (.inl rfl) e,mA,⟨od,es,ep,k _ _ (.inr d) e2,c⟩,r⟩
 | own y=>obtain⟨ob,e⟩:=x;exact⟨ob,k _ _ (.inl rfl) e⟩
 | xd fs=>obtain⟨mA,⟨od,es,ep,e,c⟩,r⟩:=x;exact⟨mA,⟨od,es,ep,k _ _ (.inl rfl) e,c⟩,r⟩
 | iZ lo hi=>obtain⟨t,u,v,e⟩:=x;exact⟨t,u,v,k _ _ (.inl rfl) e⟩
 | fP ob u ih=>obtain⟨e,q⟩:=x;exact⟨k _ _ (.inl rfl) e,ih q⟩
 | xN ps =>
  have e:h.get? a=some {cls:=.none,data:=.fields ps}:=x;show h'.get? a=some {cls:=.none,data:=.fields ps};exact k a _ (.inl rfl) e
 | met f y =>
  have e:h.get? a=some (PySem.W.methodObj (.ref f) (.ref y)):=x;show h'.get? a=some (PySem.W.methodObj (.ref f) (.ref y));exact k a _ (.inl rfl) e
 | ext φ=>obtain⟨p,⟨o,e⟩,st⟩:=x;exact⟨st _ _ p λo q=>k _ _ (.inl rfl) q,⟨o,k _ _ (.inl rfl) e⟩,st⟩
theorem gO.lt(x:gO P w H h)(e:H a=some o):a<h.objs.size:=(x a o e).lt
theorem gO.fresh(x:gO P w H h)(e:h.objs.size<=a):H a=none:=by
 cases q:H a with
 | none=>rfl
 | some u=>exact absurd (fc (x.lt q) e) (jO _)
theorem gO.kept(x:gO P w H h)(k:∀b u,h.get? b=some u->h'.get? b=some u):gO P w H h':=λa o e =>
 (x a o e).uV (λb u _ q=>k b u q) (λ_ q=>q) λ_ _ q=>q
theorem gO.laid(x:gO P w H h)(k:∀b u,h.get? b=some u->h'.get? b=some u)(hp:h.objs.size<=a)(new:bX P w (bH H a o) h' a o):gO P w (bH H a o) h':=λb u e=>by
 have hn:=x.fresh hp;by_cases hb:b=a
 ·subst hb;rw[bW]at e;cases e;exact new
 ·rw[ax hb]at e;exact(x b u e).uV (λc v _ q=>k c v q) (λc q=>by rw[ax (ed q hn)];exact q) λc xs q=>by rw[ax (ed q hn)];exact q
end
noncomputable def Rd(H:Hp)(a:Addr)(u:HO):Prop:=H a=some u\/∃o,H a=some (.fP o u)
theorem Rd.ok{P:Program}{w:World}{H:Hp}{h:Heap}{a:Addr}{u:HO}(r:Rd H a u)(x:gO P w H h):bX P w H h a u:=by
 rcases r with r | ⟨o,r⟩
 ·exact x a u r
 ·obtain⟨_,q⟩:=x a _ r;exact q
noncomputable def NP:Option HO->Prop
 | some (.lst _)=>True
 | some (.dK _)=>True
 | some (.dT _)=>True
 | some (.set _ _)=>True
 | some (.ins _ _ _)=>True
 | some (.ext _)=>True
 | _=>False
section
variable {P:Program} {w:World} {H:Hp} {h h':Heap} {x e:Addr} {o':HO}
theorem gO.write(ok:gO P w H h)(mu:NP (H x))(he:e=x\/H e=some (.own x))(k:∀b u,b≠e->h.get? b=some u->h'.get? b=some u)(Lb:∃u,h'.get? e=some u)(new:bX P w (bH H x o') h' x o'):gO P w (bH H x o') h':=λb u q=>by
 have NQ:∀c y,H c=some (.own y)->c≠x:=λc y r z=>by subst z;rw[r]at mu;exact mu
 have Sx:∀c xs,H c=some (.tup xs)->c≠x:=λc xs r z=>by subst z;rw[r]at mu;exact mu
 by_cases hb:b=x
 ·subst hb;rw[bW]at q;cases q;exact new
 ·rw[ax hb]at q;by_cases G9:b=e
  ·have q':H b=some (.own x):=by
    rcases he with z | z
    ·exact absurd (G9.trans z) hb
    ·rw[G9];exact z
   rw[q]at q';cases q';obtain⟨v,hv⟩:=Lb;exact⟨v,by rw[G9];exact hv⟩
  ·refine(ok b u q).uV (λc v hc r=>k c v ?_ r) (λc r=>by rw[ax (NQ c b r)];exact r) λc xs r=>by rw[ax (Sx c xs r)];exact r
   rcases hc with rfl | hc
   ·exact G9
   ·rintro rfl;rcases he with z | z
    ·exact NQ c b hc z
    ·rw[hc]at z;cases z;exact hb rfl
end
structure Un (fs ex:List Addr) (H H':Hp) (h h':Heap):Prop where
 keep:∀b o,h.get? b=some o->H b=none->b∉fs->b∉ex->h'.get? b=some o
 slot:∀b o,h.get? b=some o->H b=none->b∈fs->b∉ex->∃sl,h'.get? b=some {o with slots:=sl}
 free:∀b o,h.get? b=some o->H b=none->b∉ex->H' b=none
 there:∀b o,h.get? b=some o->b∉ex->∃o',h'.get? b=some o'
 fQ:∀b xs,H b=some (.tup xs)->H' b=some (.tup xs)
 ni:∀b o u,H b=some (.fP o u)->H' b=some (.fP o u)
 oV:∀b ps,H b=some (.xN ps)->∃jQ,H' b=some (.xN (ps++jQ))
section
variable {fs XJ ex ex':List Addr} {H H1 H2:Hp} {h h1 h2 h':Heap} {a x e:Addr} {o:HO}
theorem Un.any(u:Un fs ex H H1 h h1){b:Addr}{ob:Obj}(q:h.get? b=some ob)(n:H b=none)(hx:b∉ex):∃sl,h1.get? b=some {ob with slots:=sl}:=by
 by_cases hb:b∈fs
 ·exact u.slot b ob q n hb hx
 ·exact⟨ob.slots,u.keep b ob q n hb hx⟩
theorem Un.kept(k:∀b u,h.get? b=some u->h'.get? b=some u):Un fs ex H H h h' :=
 ⟨λb ob q _ _ _=>k b ob q,λb ob q _ _ _=>⟨ob.slots,k b ob q⟩,λ_ _ _ n _=>n,λb ob q _=>⟨ob,k b ob q⟩,λ_ _ q=>q,λ_ _ _ q=>q,λ_ ps q=>⟨#[],by rw[q];simp⟩⟩
theorem Un.refl:Un fs ex H H h h:=Un.kept λ_ _ q=>q
theorem Un.laid(k:∀b u,h.get? b=some u->h'.get? b=some u)(hp:h.objs.size<=a)(hn:H a=none):Un fs ex H (bH H a o) h h' where
 keep:=λb u q _ _ _=>k b u q
 slot:=λb u q _ _ _=>⟨u.slots,k b u q⟩
 free:=λb u q n _=>by rw[ax (fg (fc (cg q) hp))];exact n
 there:=λb u q _=>⟨u,k b u q⟩
 fQ:=λb xs q=>by rw[ax (ed q hn)];exact q
 ni:=λb u xs q=>by rw[ax (ed q hn)];exact q
 oV:=λb ps q=>⟨#[],by rw[ax (ed q hn),q];simp⟩
theorem Un.write(mu:NP (H x))(he:e=x\/H e=some (.own x))(k:∀b u,b≠e->h.get? b=some u->h'.get? b=some u)(Lb:∃u,h'.get? e=some u):Un fs ex H (bH H x o) h h':=by
 have hx:∀b,H b=none->b≠x:=λb n z=>by subst z;rw[n]at mu;exact mu
 have hb:∀b,H b=none->b≠e:=λb n z=>by
  subst z;rcases he with r | r
  ·exact hx b n r
  ·rw[n]at r;cases r
 have hm:∀b u,H b=some u->¬NP (some u)->b≠x:=λb u q nm z=>by subst z;rw[q]at mu;exact nm mu
 refine⟨λb u q n _ _=>k b u (hb b n) q,λb u q n _ _=>⟨u.slots,k b u (hb b n) q⟩,λb u q n _=>by rw[ax (hx b n)];exact n,λb u q _=>?_,
  λb xs q=>by rw[ax (hm b _ q λz=>z)];exact q,λb u xs q=>by rw[ax (hm b _ q λz=>z)];exact q,λb ps q=>⟨#[],by rw[ax (hm b _ q λz=>z),q];simp⟩⟩
 by_cases G9:b=e
 ·subst G9;exact Lb
 ·exact⟨u,k b u G9 q⟩
end
noncomputable def Rb(h:Heap)(H:Hp):List Addr:=(List.range h.objs.size).filter λa=>(H a).isSome
def nj(h:Heap)(H:Hp):Heap:=PySem.W.hideAll h (Rb h H)
theorem uW(h:Heap)(H:Hp):(nj h H).objs.size=h.objs.size:=PySem.W.hideAll_size _ _
theorem xO{h:Heap}{H:Hp}{b:Addr}{o:Obj}(e:h.get? b=some o)(n:H b=none):(nj h H).get? b=some o :=
 PySem.W.hideAll_get _ e λhm=>by
  have q:(H b).isSome=true:=(List.mem_filter.mp hm).2;rw[n]at q;simp at q
theorem Bq{h:Heap}{H:Hp}{b:Addr}{o:Obj}(e:(nj h H).get? b=some o):h.get? b=some o/\H b=none:=by
 have e':h.get? b=some o:=PySem.W.of_hideAll (Rb h H) e;refine⟨e',?_⟩
 cases q:H b with
 | none=>rfl
 | some x =>
  have hm:b∈Rb h H:=List.mem_filter.mpr ⟨List.mem_range.mpr (cg e'),by simp[q]⟩;have z:(nj h H).get? b=none:=PySem.W.hideAll_none (Rb h H) hm;rw[z]at e;cases e
structure Mod (K:PySem.W.Frag) (mg:Str->Option Value) (base:Heap):Prop where
 Rc:K.In base
 glob:base.Ns mainGlobals mg
 blt:∃mb,base.Ns builtinsNs mb/\∀x:Str,x≠ "__name__" -> mb x=bootBuiltins x
 nolimit:base.NoLimit
structure Cx where
 prog:Program
 w:World
 K:PySem.W.Frag
 mg:Str->Option Value
 base:Heap
 A:Around
 N:List Str
 dI:Shared
 H₀:Hp
 env:Env
 outer:List Env
 stack:List Env
 ex:List Addr
 fn:Str->Bool
 calm:Bool
 pn:List (Addr×Obj)
 xe:Value->Shared->Prop
noncomputable def xP(l:List Env):List Addr:=l.filterMap (·.frame)
abbrev Cx.fs(X:Cx):List Addr:=xP X.outer
noncomputable def Rf(sc:Scope)(x:Str):Prop:=sc.names.lookup x=some .local\/sc.names.lookup x=some .cell\/sc.names.lookup x=some .free
noncomputable def Loc(sc:Scope)(x:Str):Prop:=sc.names.lookup x=some .local\/sc.names.lookup x=some .cell
noncomputable def Look(env:Env)(h:Heap)(m:Str->Option Value)(x:Str)(u:Value):Prop :=
 (env.kindOf x=some .local/\m x=some u)\/((env.kindOf x=some .cell\/env.kindOf x=some .free)/\∃c,env.cells.lookup x=some c/\h.IsCell c (some u))
structure Cx.Ok (X:Cx):Prop where
 mod:Mod X.K X.mg X.base
 kind:X.env.scope.kind=.function
 glob:X.env.globals=mainGlobals
 blt:X.env.builtins=builtinsNs
 above:X.dI.heap.objs.size<=X.env.locals
 inj:∀x y c,X.env.cells.lookup x=some c->X.env.cells.lookup y=some c->x=y
 has:∀x,(X.env.kindOf x=some .cell\/X.env.kindOf x=some .free)->∃c,X.env.cells.lookup x=some c
 Fc:∀x c,X.fn x=true->X.env.cells.lookup x=some c->X.dI.heap.objs.size<=c
 hd:X.calm=true->X.A.handled=none
 frames:X.A.frames=some X.stack
 Lc:X.stack=X.outer\/(X.stack=X.env::X.outer/\X.env.frame=some X.env.locals)
 Rg:∀b∈X.ex,b≠X.env.locals/\∀x c,X.env.cells.lookup x=some c->c≠b
 bs:∀b o,X.base.get? b=some o->X.dI.heap.get? b=some o/\X.H₀ b=none
 Br:X.base.objs.size<=X.dI.heap.objs.size
 uX:∀b o,X.base.get? b=some o->b∉X.ex
 uY:∀b∈X.ex,b∉X.fs
 jR:X.dI.heap.FunFrames X.base X.outer
 G_:∀b∈X.fs,X.H₀ b=none
structure Inv (X:Cx) (pins:List (Addr×Obj)) (σ:List (Option V)) (H:Hp) (s:Shared):Prop where
 ok:X.Ok
 os:s.os=X.dI.os
 bare:AllBare s.gens
 base:Un X.fs X.ex X.H₀ H X.dI.heap s.heap
 loc:∃m,s.heap.Ns X.env.locals m/\∀(i:Nat)(x:Str)(v:V),X.N[i]?=some x->σ[i]?=some (some v)->Rf X.env.scope x->∃u,RelV v u/\Look X.env s.heap m x u
 cell:∀x c,X.env.cells.lookup x=some c->∃v,s.heap.IsCell c v
 free:H X.env.locals=none
 fW:∀x c,X.env.cells.lookup x=some c->H c=none
 pin:∀p∈X.pn++pins,s.heap.get? p.1=some p.2/\H p.1=none/\p.1≠X.env.locals/\p.1∉X.fs/\∀v,p.2.data≠.cell v
 bY:gO X.prog X.w H s.heap
 len:σ.length=X.N.length
section
variable {X:Cx} {pins:List (Addr×Obj)} {σ:List (Option V)} {H H':Hp} {s:Shared} {h':Heap}
theorem Cx.Ok.Sy(ok:X.Ok){b:Addr}{o:Obj}(e:X.base.get? b=some o):b∉X.fs:=λhb=>by
 have:=(ok.jR.mem hb).1;rw[e]at this;cases this
theorem Inv.bs(I:Inv X pins σ H s):∀b o,X.base.get? b=some o->s.heap.get? b=some o/\H b=none:=λb o e =>
 ⟨I.base.keep b o (I.ok.bs b o e).1 (I.ok.bs b o e).2 (I.ok.Sy e) (I.ok.uX b o e),I.base.free b o (I.ok.bs b o e).1 (I.ok.bs b o e).2 (I.ok.uX b o e)⟩
theorem Inv.bk(I:Inv X pins σ H s):∀b o,X.base.get? b=some o->s.heap.get? b=some o:=λb o e=>(I.bs b o e).1
theorem Inv.mod(I:Inv X pins σ H s):Mod X.K X.mg X.base:=I.ok.mod
theorem Inv.nk(I:Inv X pins σ H s):X.K.In s.heap:=I.ok.mod.Rc.keeps I.bk
theorem Inv.lt(I:Inv X pins σ H s):X.env.locals<s.heap.objs.size:=let ⟨_,hn,_⟩:=I.loc;hn.lt
theorem Inv.sz(I:Inv X pins σ H s):X.dI.heap.objs.size<=s.heap.objs.size:=fh I.ok.above (wK I.lt)
theorem Inv.NR(I:Inv X pins σ H s){a:Addr}(h:s.heap.objs.size<=a):a∉X.fs:=λhb=>by
 obtain⟨_,o,ho,_⟩:=I.ok.jR.mem hb;exact absurd (fc (cg ho) (fh I.sz h)) (jO _)
theorem Inv.Ha(I:Inv X pins σ H s):∀x c,X.env.cells.lookup x=some c->c≠X.env.locals:=λx c e z=>by
 obtain⟨v,o,ho,hd⟩:=I.cell x c e;obtain⟨m,⟨o',es,ep,xQ,Sz,_⟩,_⟩:=I.loc;rw[z,xQ]at ho;cases ho;rw[Sz]at hd;cases hd
theorem Inv.jR(I:Inv X pins σ H s):s.heap.FunFrames X.base X.outer:=by
 have all:∀(l:List Env),(∀b∈xP l,b∈X.fs)->X.dI.heap.FunFrames X.base l->s.heap.FunFrames X.base l:=by
  intro l
  induction l with
  | nil=>intro _ _;trivial
  | cons env r ih =>
   intro hs hl;obtain⟨hk,⟨L,o,hf,hn,ho,hd⟩,hr⟩:=hl;have hL:L∈X.fs:=hs L (by unfold xP;rw[uG,hf];exact cG);obtain⟨sl,e⟩:=I.base.slot L o ho (I.ok.G_ L hL) hL λz=>I.ok.uY L z hL;exact⟨hk,⟨L,_,hf,hn,e,hd⟩,ih (λb hb=>hs b (by unfold xP;rw[uG,hf];exact cZ _ hb)) hr⟩
 exact all X.outer (λ_ hb=>hb) I.ok.jR
theorem Inv.stack(I:Inv X pins σ H s):s.heap.FunFrames X.base X.stack:=by
 rcases I.ok.Lc with e | ⟨e,hf⟩
 ·rw[e];exact I.jR
 ·rw[e];obtain⟨m,hn,_⟩:=I.loc;refine .cons (by rw[I.ok.kind];decide) hf hn ?_ I.jR;exact Heap.get?_none_of_le (fh I.ok.Br I.ok.above)
theorem Inv.qN(I:Inv X pins σ H s):∀b∈xP X.stack,b∈X.env.locals::X.fs:=λb hb=>by
 rcases I.ok.Lc with e | ⟨e,hf⟩
 ·rw[e]at hb;exact cZ _ hb
 ·rw[e]at hb;unfold xP at hb;rw[uG,hf]at hb;exact hb
theorem Inv.sM(I:Inv X pins σ H s):∀b∈xP X.stack,H b=none:=λb hb=>by
 rcases bw.mp (I.qN b hb)with e | hb
 ·rw[e];exact I.free
 ·obtain⟨_,o,ho,_⟩:=I.ok.jR.mem hb;exact I.base.free b o ho (I.ok.G_ b hb) λz=>I.ok.uY b z hb
theorem Inv.step{g':Array GenState}{t':Nat}{d':Drawn}{ch:List Addr}(I:Inv X pins σ H s)(AJ:∀b∈ch,(b∈X.ex\/X.dI.heap.objs.size<=b)/\b≠X.env.locals/\(∀x c,X.env.cells.lookup x=some c->c≠b)/\∀p∈X.pn++pins,p.1≠b)(keep:∀b o,b≠X.env.locals->b∉X.fs->b∉ch->s.heap.get? b=some o->H b=none->h'.get? b=some o)(slot:∀b o,b≠X.env.locals->b∈X.fs->b∉ch->s.heap.get? b=some o->H b=none->∃sl,h'.get? b=some {o with slots:=sl})(free:∀b o,b∉ch->s.heap.get? b=some o->H b=none->H' b=none)(there:∀b o,b∉ch->s.heap.get? b=some o->∃o',h'.get? b=some o')(fQ:∀b xs,H b=some (.tup xs)->H' b=some (.tup xs))(ni:∀b o u,H b=some (.fP o u)->H' b=some (.fP o u))(oV:∀b ps,H b=some (.xN ps)->∃jQ,H' b=some (.xN (ps++jQ)))(ns:∀m,s.heap.Ns X.env.locals m->h'.Ns X.env.locals m)(bY:gO X.prog X.w H' h')(hg:AllBare g'):Inv X pins σ H' {s with heap:=h',gens:=g',drawn:=d',toks:=t'}:=by
 have V6:∀b o,X.dI.heap.get? b=some o->b≠X.env.locals:=λb o e=>fg (fc (cg e) I.ok.above)
 have Rh:∀b o,X.dI.heap.get? b=some o->b∉X.ex->b∉ch:=λb o e hx hb=>by
  rcases(AJ b hb).1 with z | z
  ·exact hx z
  ·exact absurd (fc (cg e) z) (jO _)
 have cellK:∀x c,X.env.cells.lookup x=some c->∀v,s.heap.IsCell c v->h'.IsCell c v:=λx c e v ⟨o,ho,hd⟩=>by
  have NS:c∉ch:=λz=>(AJ c z).2.2.1 x c e rfl;by_cases hc:c∈X.fs
  ·obtain⟨sl,q⟩:=slot c o (I.Ha x c e) hc NS ho (I.fW x c e);exact⟨_,q,hd⟩
  ·exact⟨o,keep c o (I.Ha x c e) hc NS ho (I.fW x c e),hd⟩
 refine⟨I.ok,I.os,hg,⟨λb o e n hb hx=>?_,λb o e n hb hx=>?_,λb o e n hx=>?_,λb o e hx=>?_,λb xs e=>fQ b xs (I.base.fQ b xs e),λb o xs e=>ni b o xs (I.base.ni b o xs e),λb ps e=>?_⟩,?_,λx c e=>?_,?_,λx c e=>?_,λp hp=>?_,bY,I.len⟩
 ·exact keep b o (V6 b o e) hb (Rh b o e hx) (I.base.keep b o e n hb hx) (I.base.free b o e n hx)
 ·obtain⟨sl,e1⟩:=I.base.slot b o e n hb hx;obtain⟨XM,e2⟩:=slot b _ (V6 b o e) hb (Rh b o e hx) e1 (I.base.free b o e n hx);exact⟨XM,e2⟩
 ·obtain⟨o',e1⟩:=I.base.there b o e hx;exact free b o' (Rh b o e hx) e1 (I.base.free b o e n hx)
 ·obtain⟨o',e1⟩:=I.base.there b o e hx;exact there b o' (Rh b o e hx) e1
 ·obtain⟨m1,e1⟩:=I.base.oV b ps e;obtain⟨m2,e2⟩:=oV b _ e1;exact⟨m1++m2,by rw[e2,Array.append_assoc]⟩
 ·obtain⟨m,hn,hl⟩:=I.loc;refine⟨m,ns m hn,λi x v e1 e2 e3=>?_⟩;obtain⟨u,r,l⟩:=hl i x v e1 e2 e3;refine⟨u,r,?_⟩;rcases l with l | ⟨k,c,e,z⟩
  ·exact .inl l
  ·exact .inr ⟨k,c,e,cellK x c e _ z⟩
 ·obtain⟨v,z⟩:=I.cell x c e;exact⟨v,cellK x c e v z⟩
 ·obtain⟨m,⟨o,_,_,ho,_⟩,_⟩:=I.loc;exact free _ o (λz=>(AJ _ z).2.1 rfl) ho I.free
 ·obtain⟨v,o,ho,hd⟩:=I.cell x c e;exact free c o (λz=>(AJ c z).2.2.1 x c e rfl) ho (I.fW x c e)
 ·obtain⟨e,n,ne,nf,d⟩:=I.pin p hp;have NS:p.1∉ch:=λz=>(AJ p.1 z).2.2.2 p hp rfl;exact⟨keep p.1 p.2 ne nf NS e n,free p.1 p.2 NS e n,ne,nf,d⟩
theorem Inv.un{t':Nat}(I:Inv X pins σ H s)(u:Un X.fs [] H H' s.heap h')(bY:gO X.prog X.w H' h'):Inv X pins σ H' {s with heap:=h',toks:=t'}:=by
 obtain⟨m,⟨o,es,ep,ho,r⟩,_⟩:=id I.loc;obtain⟨sl,hL⟩:=u.any ho I.free (by simp)
 exact I.step (g':=s.gens) (d':=s.drawn) (ch:=[]) (λ_ z=>nomatch z) (λb o _ hb _ e n=>u.keep b o e n hb (by simp)) (λb o _ hb _ e n=>u.slot b o e n hb (by simp)) (λb o _ e n=>u.free b o e n (by simp)) (λb o _ e=>u.there b o e (by simp)) u.fQ u.ni u.oV (λm' hm=>by
  obtain⟨o',SA,SD,xQ,r'⟩:=hm;rw[ho]at xQ;cases xQ;exact⟨_,SA,SD,hL,r'⟩) bY I.bare
theorem Inv.call{g':Array GenState}{t':Nat}{d':Drawn}{ch:List Addr}(I:Inv X pins σ H s)(u:Un (xP X.stack) ch H H' s.heap h')(bY:gO X.prog X.w H' h')(hg:AllBare g')(AJ:∀b∈ch,(b∈X.ex\/X.dI.heap.objs.size<=b)/\b≠X.env.locals/\(∀x c,X.env.cells.lookup x=some c->c≠b)/\∀p∈X.pn++pins,p.1≠b):Inv X pins σ H' {s with heap:=h',gens:=g',drawn:=d',toks:=t'}:=by
 obtain⟨m,⟨o,es,ep,ho,r⟩,_⟩:=id I.loc;obtain⟨sl,hL⟩:=u.any ho I.free λz=>(AJ _ z).2.1 rfl
 exact I.step (ch:=ch) AJ (λb o hL hb hc e n=>u.keep b o e n (λz=>(bw.mp (I.qN b z)).elim hL hb) hc) (λb o _ _ hc e n=>u.any e n hc) (λb o hc e n=>u.free b o e n hc) (λb o hc e=>u.there b o e hc) u.fQ u.ni u.oV (λm' hm=>by
  obtain⟨o',SA,SD,xQ,r'⟩:=hm;rw[ho]at xQ;cases xQ;exact⟨_,SA,SD,hL,r'⟩) bY hg
theorem Inv.turned{t':Nat}{it:Addr}(I:Inv X pins σ H s)(k:∀b o,b≠it->s.heap.get? b=some o->h'.get? b=some o)(hn:H it=none)(hL:it≠X.env.locals)(h1:it∈X.ex\/X.dI.heap.objs.size<=it)(h2:∀x c,X.env.cells.lookup x=some c->c≠it)(h3:∀p∈X.pn++pins,p.1≠it):Inv X pins σ H {s with heap:=h',toks:=t'}:=by
 have NT:∀b u,H b=some u->b≠it:=λb u e z=>by rw[z,hn]at e;cases e
 refine I.step (g':=s.gens) (d':=s.drawn) (ch:=[it]) (λb hb=>?_) (λb o _ _ hc e _=>k b o (λz=>hc (by simp[z])) e) (λb o _ _ hc e _=>⟨o.slots,k b o (λz=>hc (by simp[z])) e⟩) (λ_ _ _ _ n=>n)
  (λb o hc e=>⟨o,k b o (λz=>hc (by simp[z])) e⟩) (λ_ _ e=>e) (λ_ _ _ e=>e) (λb ps e=>⟨#[],by rw[e];simp⟩) (λm hm=>?_) (λb u e=>?_) I.bare
 ·have e:b=it:=by simpa using hb
  subst e;exact⟨h1,hL,h2,h3⟩
 ·obtain⟨o,es,ep,ho,r⟩:=hm;exact⟨o,es,ep,k _ o (ig hL) ho,r⟩
 ·refine(I.bY b u e).uV (λc v hc q=>k c v ?_ q) (λ_ q=>q) λ_ _ q=>q;rcases hc with z | z
  ·rw[z];exact NT b u e
  ·exact NT c _ z
theorem Inv.tok(I:Inv X pins σ H s)(t:Nat):Inv X pins σ H {s with toks:=t}:=I.un (h':=s.heap) (t':=t) Un.refl I.bY
theorem Inv.kept{t':Nat}(I:Inv X pins σ H s)(k:∀b u,s.heap.get? b=some u->h'.get? b=some u):Inv X pins σ H {s with heap:=h',toks:=t'}:=I.un (Un.kept k) (I.bY.kept k)
theorem Inv.laid{a:Addr}{o:HO}{t':Nat}(I:Inv X pins σ H s)(k:∀b u,s.heap.get? b=some u->h'.get? b=some u)(hp:s.heap.objs.size<=a)(new:bX X.prog X.w (bH H a o) h' a o):Inv X pins σ (bH H a o) {s with heap:=h',toks:=t'}:=I.un (Un.laid k hp (I.bY.fresh hp)) (I.bY.laid k hp new)
theorem Inv.write{x e:Addr}{o:HO}{t':Nat}(I:Inv X pins σ H s)(mu:NP (H x))(he:e=x\/H e=some (.own x))(k:∀b u,b≠e->s.heap.get? b=some u->h'.get? b=some u)(Lb:∃u,h'.get? e=some u)(new:bX X.prog X.w (bH H x o) h' x o):Inv X pins σ (bH H x o) {s with heap:=h',toks:=t'}:=I.un (Un.write mu he k Lb) (I.bY.write mu he k Lb new)
theorem Inv.nq{Fd:List (Addr×Obj)}(I:Inv X pins σ H s)(h:∀p∈Fd,s.heap.get? p.1=some p.2/\H p.1=none/\p.1≠X.env.locals/\p.1∉X.fs/\∀v,p.2.data≠.cell v):Inv X Fd σ H s :=
 ⟨I.ok,I.os,I.bare,I.base,I.loc,I.cell,I.free,I.fW,λp hp=>(fN.mp hp).elim (λz=>I.pin p (Bd _ z)) (h p),I.bY,I.len⟩
theorem oW{N:List Str}(hN:N.Nodup){i j:Nat}{x:Str}(a:N[i]?=some x)(b:N[j]?=some x):i=j:=by
 obtain⟨h1,e1⟩:=dq.mp a;obtain⟨h2,e2⟩:=dq.mp b;exact(List.getElem_inj hN).mp (e1.trans e2.symm)
theorem uZ{M:Model}{A:Around}{E:Value->Shared->Prop}{i:Nat}{x:Str}{v:V}{u:Value}{Q:Unit->Shared->Prop}(I:Inv X pins σ H s)(hN:X.N.Nodup)(hi:X.N[i]?=some x)(hx:Loc X.env.scope x)(r:RelV v u)(h:∀s',Inv X pins (σ.set i (some v)) H s'->(∃a,Heap.SameBut a s.heap s'.heap/\(a=X.env.locals\/X.env.cells.lookup x=some a))->Q () s')(hf:X.fn x=true\/X.env.scope.names.lookup x=some .local:=by first | exact .inl rfl | exact .inr rfl | assumption):wpAny M A (storeName X.env x u) Q E s:=by
 obtain⟨m,hn,hl⟩:=id I.loc;have SE:(X.env.scope.kind == .class||(X.env.scope.kind == .module&&X.env.locals != X.env.globals))=false:=by rw[I.ok.kind];rfl
 have NU:i<σ.length:=by rw[I.len];exact(dq.mp hi).1
 have Ha:=I.Ha
 have tracked:∀{a:Addr}{h':Heap},(∃o,s.heap.get? a=some o/\H a=none)->Heap.SameBut a s.heap h'->gO X.prog X.w H h':=λ{a h'} ha hs b ob e=>by
  obtain⟨_,_,oX⟩:=ha;refine(I.bY b ob e).uV (λc w' hc q=>(hs.2 c ?_).trans q) (λ_ q=>q) λ_ _ q=>q;rintro rfl;rcases hc with rfl | hc
  ·rw[oX]at e;cases e
  ·rw[oX]at hc;cases hc
 rcases hx with hk | hk
 ·refine wpAny_storeName_local hk hn (λh' XN hs=>?_) SE;obtain⟨oL,_,_,XO,_⟩:=id hn;refine h _ ⟨I.ok,I.os,I.bare,⟨λb o e n hb hx=>?_,λb o e n hb hx=>?_,I.base.free,λb o e hx=>?_,I.base.fQ,I.base.ni,I.base.oV⟩,⟨_,XN,λj y v' e1 e2 e3=>?_⟩,λy c e=>?_,I.free,I.fW,λp hp=>?_,tracked ⟨oL,XO,I.free⟩ hs,by simpa using I.len⟩ ⟨_,hs,.inl rfl⟩
  ·exact(hs.2 b (fg (fc (cg e) I.ok.above))).trans (I.base.keep b o e n hb hx)
  ·obtain⟨sl,e1⟩:=I.base.slot b o e n hb hx;exact⟨sl,(hs.2 b (fg (fc (cg e) I.ok.above))).trans e1⟩
  ·obtain⟨o',e1⟩:=I.base.there b o e hx;exact⟨o',(hs.2 b (fg (fc (cg e) I.ok.above))).trans e1⟩
  ·by_cases hj:j=i
   ·subst hj;rw[hi]at e1;cases e1;rw[uF NU]at e2;cases e2;exact⟨u,r,.inl ⟨hk,by simp⟩⟩
   ·rw[oN (ig hj)]at e2;obtain⟨u',r',q⟩:=hl j y v' e1 e2 e3;refine⟨u',r',?_⟩;rcases q with⟨k,e⟩|⟨k,c,e,z⟩
    ·refine .inl ⟨k,?_⟩;have:y≠x:=λe=>hj (oW hN e1 (e▸hi));simp[this,e]
    ·exact .inr ⟨k,c,e,z.sameBut hs (Ha y c e)⟩
  ·obtain⟨w',z⟩:=I.cell y c e;exact⟨w',z.sameBut hs (Ha y c e)⟩
  ·obtain⟨e,n,ne,nf,d⟩:=I.pin p hp;exact⟨(hs.2 p.1 ne).trans e,n,ne,nf,d⟩
 ·have SF:X.fn x=true:=by
   rcases hf with z | z
   ·exact z
   ·rw[z]at hk;cases hk
  obtain⟨c,hc⟩:=I.ok.has x (.inl hk);obtain⟨w',z⟩:=I.cell x c hc;refine wpAny_storeName_cell I.ok.kind hk hc z (λh' oY hs=>?_);obtain⟨oc,V7,SG⟩:=id z;refine h {s with heap:=h'} ⟨I.ok,I.os,I.bare,⟨λb o e n hb hx=>?_,λb o e n hb hx=>?_,I.base.free,λb o e hx=>?_,I.base.fQ,I.base.ni,I.base.oV⟩,⟨m,hn.sameBut hs (ig (Ha x c hc)),λj y v' e1 e2 e3=>?_⟩,λy c' e=>?_,I.free,I.fW,λp hp=>?_,tracked ⟨oc,V7,I.fW x c hc⟩ hs,by simpa using I.len⟩ ⟨c,hs,.inr hc⟩
  ·exact(hs.2 b (fg (fc (cg e) (I.ok.Fc x c SF hc)))).trans (I.base.keep b o e n hb hx)
  ·obtain⟨sl,e1⟩:=I.base.slot b o e n hb hx;exact⟨sl,(hs.2 b (fg (fc (cg e) (I.ok.Fc x c SF hc)))).trans e1⟩
  ·obtain⟨o',e1⟩:=I.base.there b o e hx;exact⟨o',(hs.2 b (fg (fc (cg e) (I.ok.Fc x c SF hc)))).trans e1⟩
  ·by_cases hj:j=i
   ·subst hj;rw[hi]at e1;cases e1;rw[uF NU]at e2;cases e2;exact⟨u,r,.inr ⟨.inl hk,c,hc,oY⟩⟩
   ·rw[oN (ig hj)]at e2;obtain⟨u',r',q⟩:=hl j y v' e1 e2 e3;refine⟨u',r',?_⟩;rcases q with q | ⟨k,c',e,z'⟩
    ·exact .inl q
    ·refine .inr ⟨k,c',e,z'.sameBut hs ?_⟩;rintro rfl;exact hj (oW hN e1 (I.ok.inj _ _ _ e hc▸hi))
  ·by_cases V8:c'=c
   ·subst V8;exact⟨_,oY⟩
   ·obtain⟨w2,z2⟩:=I.cell y c' e;exact⟨w2,z2.sameBut hs V8⟩
  ·obtain⟨e,n,ne,nf,d⟩:=I.pin p hp;refine⟨(hs.2 p.1 ?_).trans e,n,ne,nf,d⟩;intro q;rw[q,V7]at e;have q':oc=p.2:=cH e;exact d w' (by rw[<- q'];exact SG)
theorem xR{M:Model}{A:Around}{E:Value->Shared->Prop}{i:Nat}{x:Str}{v:V}{u:Value}{Q:Unit->Shared->Prop}(I:Inv X pins σ H s)(hN:X.N.Nodup)(hi:X.N[i]?=some x)(hx:Loc X.env.scope x)(r:RelV v u)(h:∀s',Inv X pins (σ.set i (some v)) H s'->Q () s')(hf:X.fn x=true\/X.env.scope.names.lookup x=some .local:=by first | exact .inl rfl | exact .inr rfl | assumption):wpAny M A (storeName X.env x u) Q E s :=
 uZ I hN hi hx r (λs' I' _=>h s' I') hf
theorem Inv.NV{s':Shared}{ch:List Addr}(I:Inv X pins σ H s)(ho:s'.os=s.os)(u:Un (xP X.stack) ch H H' s.heap s'.heap)(bY:gO X.prog X.w H' s'.heap)(hg:AllBare s'.gens)(AJ:∀b∈ch,(b∈X.ex\/X.dI.heap.objs.size<=b)/\b≠X.env.locals/\(∀x c,X.env.cells.lookup x=some c->c≠b)/\∀p∈X.pn++pins,p.1≠b):Inv X pins σ H' s':=by
 obtain⟨h',g',d',t',o'⟩:=s';have e:o'=s.os:=ho;subst e;exact I.call (g':=g') (t':=t') (d':=d') u bY hg AJ
end
abbrev XK:=Value->Option Addr->Hp->Prop
abbrev St:=List (Option V)
abbrev VK:=V->Hp->Prop
abbrev TE:=St->Hp->VK->Prop
abbrev TT:=St->Hp->(Bool->Hp->Prop)->Prop
abbrev TA:=St->Hp->(List V->Hp->Prop)->Prop
structure kj where
 nx:St->Hp->Prop
 rt:VK
 bk:St->Hp->Prop:=λ_ _=>False
 ct:St->Hp->Prop:=λ_ _=>False
abbrev TS:=kj->St->Hp->Prop
def EP(X:Cx)(pins:List (Addr×Obj))(σ:St)(Q:VK)(u:Value)(s':Shared):Prop:=∃v H',Inv X pins σ H' s'/\RelV v u/\Q v H'
noncomputable def TP(X:Cx)(pins:List (Addr×Obj))(σ:St)(Q:Bool->Hp->Prop)(b:Bool)(s':Shared):Prop:=∃H',Inv X pins σ H' s'/\Q b H'
noncomputable def AP(X:Cx)(pins:List (Addr×Obj))(σ:St)(Q:List V->Hp->Prop)(us:List Value)(s':Shared):Prop:=∃vs H',Inv X pins σ H' s'/\aE vs us/\Q vs H'
def SP(X:Cx)(pins:List (Addr×Obj))(D:kj)(f:Flow)(s':Shared):Prop :=
 match f with
 | .next=>∃cE H',Inv X pins cE H' s'/\D.nx cE H'
 | .brk=>∃cE H',Inv X pins cE H' s'/\D.bk cE H'
 | .cont=>∃cE H',Inv X pins cE H' s'/\D.ct cE H'
 | .ret u=>∃v cE H',Inv X pins cE H' s'/\RelV v u/\D.rt v H'
def PE(X:Cx)(e:Expr)(t:TE):Prop :=
 ∀(pins:List (Addr×Obj))(s:Shared)(σ:St)(H:Hp)(Q:VK),Inv X pins σ H s->t σ H Q->wpAny (model X.prog X.w) X.A (eval e X.env) (EP X pins σ Q) X.xe s
def PT(X:Cx)(e:Expr)(t:TT):Prop :=
 ∀(pins:List (Addr×Obj))(s:Shared)(σ:St)(H:Hp)(Q:Bool->Hp->Prop),Inv X pins σ H s->t σ H Q->wpAny (model X.prog X.w) X.A (isTrue e X.env (eval e X.env)) (TP X pins σ Q) X.xe s
def PW(X:Cx)(e:Expr)(t:TT):Prop :=
 ∀(km:Sem Value)(pins:List (Addr×Obj))(s:Shared)(σ:St)(H:Hp)(Q:Bool->Hp->Prop),Inv X pins σ H s->t σ H Q->wpAny (model X.prog X.w) X.A (isTrue e X.env km) (TP X pins σ Q) X.xe s
theorem PW.pt{X:Cx}{e:Expr}{t:TT}(h:PW X e t):PT X e t:=h _
def PA(X:Cx)(es:List Expr)(t:TA):Prop :=
 ∀(pos:Pos)(pins:List (Addr×Obj))(s:Shared)(σ:St)(H:Hp)(Q:List V->Hp->Prop),Inv X pins σ H s->t σ H Q->wpAny (model X.prog X.w) X.A (spliced (backTo pos (starEach es X.env))) (AP X pins σ Q) X.xe s
def PS(X:Cx)(st:Stmt)(t:TS):Prop :=
 ∀(pins:List (Addr×Obj))(s:Shared)(σ:St)(H:Hp)(D:kj),Inv X pins σ H s->t D σ H->wpAny (model X.prog X.w) X.A (exec st X.env) (SP X pins D) X.xe s
def u4(X:Cx)(st:List Stmt)(t:TS):Prop :=
 ∀(pins:List (Addr×Obj))(s:Shared)(σ:St)(H:Hp)(D:kj),Inv X pins σ H s->t D σ H->wpAny (model X.prog X.w) X.A (execs st X.env) (SP X pins D) X.xe s
theorem cj{α:Type}{t:Sem α}{Q Q':α->Shared->Prop}{M:Model}{A:Around}{E:Value->Shared->Prop}{s:Shared}(h:wpAny M A t Q E s)(hQ:∀a s,Q a s->Q' a s):wpAny M A t Q' E s:=je h hQ λ_ _ x=>x
section
variable {X:Cx}
noncomputable def SH(i:Nat):TE:=λσ H Q=>∃v,σ[i]?=some (some v)/\Q v H
def tC(v:V):TE:=λ_ H Q=>Q v H
theorem Hb{i:Nat}{x:Str}{pos:Pos}(hN:X.N[i]?=some x)(hv:Rf X.env.scope x) (hd:(x==("__debug__" : Str))=false:=by decide) (AK:(x==("__classdict__" : Str))=false:=by decide):PE X (.Name x pos) (SH i):=by
 intro pins s σ H Q I h;obtain⟨v,e,h⟩:=h;obtain⟨m,hn,hl⟩:=I.loc;obtain⟨u,r,l⟩:=hl i x v hN e hv;have fin:EP X pins σ Q u s:=⟨v,H,I,r,h⟩;rcases l with⟨hk,hm⟩|⟨hk,c,hc,ko⟩
 ·exact uS (wpAny_loadName_local I.ok.kind hk hn hm fin) hd
 ·rcases hk with hk | hk
  ·exact uS (wpAny_loadName_cell I.ok.kind hk hc ko fin) hd
  ·exact uS (wpAny_loadName_free I.ok.kind hk hc ko fin AK) hd
theorem xS {i j pos}:PE X (.Constant (.int i) j pos) (tC (.int i)):=λ_ _ _ H _ I h=>wpAny_Constant_int ⟨.int i,H,I.tok _,⟨_,rfl⟩,h⟩
theorem NW {b j pos}:PE X (.Constant (.bool b) j pos) (tC (.bl b)):=λ_ _ _ H _ I h=>Constant_bool ⟨.bl b,H,I,rfl,h⟩
theorem Hc {j pos}:PE X (.Constant .none j pos) (tC .ba):=λ_ _ _ H _ I h=>Constant_none ⟨.ba,H,I,rfl,h⟩
theorem xT {x j pos}:PE X (.Constant (.str x) j pos) (tC (.str x)):=λ_ _ _ H _ I h=>Calls.Constant_str ⟨.str x,H,I.tok _,⟨_,rfl⟩,h⟩
noncomputable def Gl(X:Cx)(x:Str):Prop:=X.env.kindOf x=some .globalImplicit
theorem nw{E:Value->Shared->Prop}{pins:List (Addr×Obj)}{s:Shared}{σ:St}{H:Hp}{x:Str}{u:Value}{pos:Pos}{Q:Value->Shared->Prop}(I:Inv X pins σ H s)(hg:Gl X x)(hm:X.mg x=some u)(h:Q u s) (hd:(x==("__debug__" : Str))=false:=by decide):wpAny (model X.prog X.w) X.A (eval (.Name x pos) X.env) Q E s :=
 Calls.Name_function_global I.ok.kind hg (Calls.loadGlobal_global (by rw[I.ok.glob];exact I.mod.glob.keeps I.bk) hm h) hd
theorem jg{E:Value->Shared->Prop}{pins:List (Addr×Obj)}{s:Shared}{σ:St}{H:Hp}{x:Str}{u:Value}{pos:Pos}{Q:Value->Shared->Prop}(I:Inv X pins σ H s)(hg:Gl X x)(hm:X.mg x=none)(hv:bootBuiltins x=some u)(h:Q u s) (hn:x≠ "__name__" := by decide) (hd:(x==("__debug__" : Str))=false:=by decide):wpAny (model X.prog X.w) X.A (eval (.Name x pos) X.env) Q E s:=by
 obtain⟨mb,h1,h2⟩:=I.mod.blt;exact Calls.Name_function_global I.ok.kind hg (Calls.loadGlobal_builtin (by rw[I.ok.glob];exact I.mod.glob.keeps I.bk) hm (by rw[I.ok.blt];exact h1.keeps I.bk) ((h2 x hn).trans hv) h) hd
theorem ny{x:Str}{v:V}{u:Value}{pos:Pos}(hg:Gl X x)(hm:X.mg x=some u)(r:RelV v u) (hd:(x==("__debug__" : Str))=false:=by decide):PE X (.Name x pos) (tC v) :=
 λ_ _ _ H _ I h=>nw I hg hm ⟨v,H,I,r,h⟩ hd
theorem Bs{x:Str}{v:V}{u:Value}{pos:Pos}(hg:Gl X x)(hm:X.mg x=none)(hv:bootBuiltins x=some u)(r:RelV v u) (hn:x≠ "__name__" := by decide) (hd:(x==("__debug__" : Str))=false:=by decide):PE X (.Name x pos) (tC v) :=
 λ_ _ _ H _ I h=>jg I hg hm hv ⟨v,H,I,r,h⟩ hn hd
variable {a b:Expr} {ta tb:TE} {pos:Pos}
variable {tA Ri:TT} {eg:List Expr}
noncomputable def SI(t u:TT):TT:=λσ H Q=>t σ H λc H1=>if c=true then u σ H1 Q else Q false H1
noncomputable def XQ(t u:TT):TT:=λσ H Q=>t σ H λc H1=>if c=true then Q true H1 else u σ H1 Q
def SJ(t:TT):TT:=λσ H Q=>t σ H λc H1=>Q (!c) H1
theorem Bt(ha:PT X a tA):PW X (.BoolOp .And [a] pos) tA:=by
 intro wh pins s σ H Q I h;refine isTrue_and (cj (ha pins s σ H Q I h) λc s1 e=>?_)
 cases c with
 | true=>exact isTrue_and_nil e
 | false=>exact e
theorem Hd(ha:PT X a tA):PW X (.BoolOp .Or [a] pos) tA:=by
 intro wh pins s σ H Q I h;refine isTrue_or (cj (ha pins s σ H Q I h) λc s1 e=>?_)
 cases c with
 | false=>exact isTrue_or_nil e
 | true=>exact e
theorem He(ha:PT X a tA)(hb:PW X (.BoolOp .And (b::eg) pos) Ri):PW X (.BoolOp .And (a::b::eg) pos) (SI tA Ri):=by
 intro wh pins s σ H Q I h;refine isTrue_and (cj (ha pins s σ H _ I h) ?_);rintro c s1 ⟨H1,I1,q1⟩
 cases c with
 | true=>exact hb wh pins s1 σ H1 Q I1 q1
 | false=>exact⟨H1,I1,q1⟩
theorem NX(ha:PT X a tA)(hb:PW X (.BoolOp .Or (b::eg) pos) Ri):PW X (.BoolOp .Or (a::b::eg) pos) (XQ tA Ri):=by
 intro wh pins s σ H Q I h;refine isTrue_or (cj (ha pins s σ H _ I h) ?_);rintro c s1 ⟨H1,I1,q1⟩
 cases c with
 | true=>exact⟨H1,I1,q1⟩
 | false=>exact hb wh pins s1 σ H1 Q I1 q1
theorem Hf(ha:PT X a tA):PT X (.UnaryOp .Not a pos) (SJ tA):=by
 intro pins s σ H Q I h;exact isTrue_not (ha pins s σ H (λc H1=>Q (!c) H1) I h)
noncomputable def NY(ta tb:TE):TE:=λσ H Q=>ta σ H λx H1=>∃c,x=.bl c/\if c=true then tb σ H1 Q else Q (.bl false) H1
noncomputable def SM(ta tb:TE):TE:=λσ H Q=>ta σ H λx H1=>∃c,x=.bl c/\if c=true then Q (.bl true) H1 else tb σ H1 Q
noncomputable def NZ(ta:TE):TE:=λσ H Q=>ta σ H λx H1=>∃c,x=.bl c/\Q (.bl (!c)) H1
theorem xU {op} {t:TE} (h:PE X a t):PE X (.BoolOp op [a] pos) t:=λpins s σ H Q I hw=>BoolOp_one (h pins s σ H Q I hw)
theorem Hg(ha:PE X a ta)(hb:PE X (.BoolOp .And (b::eg) pos) tb):PE X (.BoolOp .And (a::b::eg) pos) (NY ta tb):=by
 intro pins s σ H Q I h;refine BoolOp_and (cj (ha pins s σ H _ I h) ?_);rintro v s1 ⟨x,H1,I1,r1,q1⟩;obtain⟨c,rfl,q1⟩:=q1;cases r1;refine oP ?_
 cases c with
 | true=>exact hb pins s1 σ H1 Q I1 q1
 | false=>exact⟨.bl false,H1,I1,rfl,q1⟩
theorem N0(ha:PE X a ta)(hb:PE X (.BoolOp .Or (b::eg) pos) tb):PE X (.BoolOp .Or (a::b::eg) pos) (SM ta tb):=by
 intro pins s σ H Q I h;refine BoolOp_or (cj (ha pins s σ H _ I h) ?_);rintro v s1 ⟨x,H1,I1,r1,q1⟩;obtain⟨c,rfl,q1⟩:=q1;cases r1;refine oP ?_
 cases c with
 | false=>exact hb pins s1 σ H1 Q I1 q1
 | true=>exact⟨.bl true,H1,I1,rfl,q1⟩
theorem Hh(ha:PE X a ta):PE X (.UnaryOp .Not a pos) (NZ ta):=by
 intro pins s σ H Q I h;refine UnaryOp_ (cj (ha pins s σ H _ I h) ?_);rintro v s1 ⟨x,H1,I1,r1,q1⟩;obtain⟨c,rfl,q1⟩:=q1;cases r1;exact not_of (oP ⟨.bl (!c),H1,I1,rfl,q1⟩)
noncomputable def XR(t:TT)(ta tb:TE):TE:=λσ H Q=>t σ H λc H1=>if c=true then ta σ H1 Q else tb σ H1 Q
theorem xV{c:Expr}(hc:PT X c tA)(ha:PE X a ta)(hb:PE X b tb):PE X (.IfExp c a b pos) (XR tA ta tb):=by
 intro pins s σ H Q I h;refine wpAny_IfExp (cj (hc pins s σ H _ I h) ?_);rintro d s1 ⟨H1,I1,q1⟩
 cases d with
 | true=>exact ha pins s1 σ H1 Q I1 q1
 | false=>exact hb pins s1 σ H1 Q I1 q1
end
def eF(K:PySem.W.Frag)(H:Hp)(a:Addr)(xs:List V):Prop :=
 Rd H a (.lst xs) \/
  ∃(o:Obj) (ar:Array Value) (n:Nat),K.lookup a=some o/\o.cls=.type "list" /\ o.dict=none/\o.data=.seq ar n/\ar.size<=sizeLine/\aE xs ar.toList
def fb(K:PySem.W.Frag)(H:Hp)(a:Addr)(xs:List V):Prop :=
 Rd H a (.tup xs) \/
  ∃(o:Obj) (ar:Array Value) (n:Nat),K.lookup a=some o/\o.cls=.type "tuple" /\ o.data=.seq ar n/\ar.size<=sizeLine/\aE xs ar.toList
noncomputable def SN:Value->Option V
 | .none=>some .ba
 | .bool b=>some (.bl b)
 | .int i _=>some (.int i)
 | .str x _=>some (.str x)
 | .bytes b _=>some (.NK b)
 | .float b _=>some (.La b)
 | .ref a=>some (.ref a)
 | .type n=>some (.ty n)
 | _=>none
theorem RelV.abs{x:V}{u:Value}(r:RelV x u):SN u=some x:=by
 cases x with
 | ba=>cases r;rfl
 | bl _=>cases r;rfl
 | int _=>obtain⟨t,rfl⟩:=r;rfl
 | str _=>obtain⟨t,rfl⟩:=r;rfl
 | NK _=>obtain⟨t,rfl⟩:=r;rfl
 | La _=>obtain⟨t,rfl⟩:=r;rfl
 | ref _=>cases r;rfl
 | ty _=>cases r;rfl
theorem RelV.inj{x y:V}{u:Value}(r:RelV x u)(q:RelV y u):x=y:=cH (r.abs.symm.trans q.abs)
theorem aE.inj{xs ys:List V}{us:List Value}(p:aE xs us)(q:aE ys us):xs=ys:=by
 induction p generalizing ys with
 | nil=>cases q;rfl
 | cons r t ih=>cases q with
  | cons r' t'=>rw[r.inj r',ih t']
section
variable {X:Cx} {pins:List (Addr×Obj)} {σ:St} {H:Hp} {s:Shared} {a:Addr} {xs ys:List V}
theorem eF.of{K:PySem.W.Frag}(h:H a=some (.lst xs)):eF K H a xs:=.inl (.inl h)
theorem fb.of{K:PySem.W.Frag}(h:H a=some (.tup xs)):fb K H a xs:=.inl (.inl h)
theorem Inv.list(I:Inv X pins σ H s)(h:eF X.K H a xs):∃ar:List Value,aE xs ar/\PlainL s.heap a ar.toArray/\xs.length<=sizeLine:=by
 rcases h with h | ⟨o,ar,n,hk,hc,hd,hs,hz,r⟩
 ·obtain⟨z,ar,n,r,e⟩:=h.ok I.bY;exact⟨ar,r,⟨_,n,e,rfl,rfl,rfl⟩,z⟩
 ·refine⟨ar.toList,r,⟨o,n,I.nk a o hk,hc,hd,by simpa using hs⟩,?_⟩;have e:=r.length;simp only[uH]at e;omega
theorem Inv.tuple(I:Inv X pins σ H s)(h:fb X.K H a xs):∃ar:List Value,aE xs ar/\IsTup s.heap a ar.toArray/\xs.length<=sizeLine:=by
 rcases h with h | ⟨o,ar,n,hk,hc,hs,hz,r⟩
 ·obtain⟨z,ar,r,p⟩:=h.ok I.bY;exact⟨ar,r,p,z⟩
 ·refine⟨ar.toList,r,⟨o,I.nk a o hk,hc,n,by simpa using hs⟩,?_⟩;have e:=r.length;simp only[uH]at e;omega
theorem Inv.oZ(I:Inv X pins σ H s)(h:eF X.K H a xs)(h':eF X.K H a ys):xs=ys:=by
 obtain⟨ar,r,⟨o,n,e,_,_,d⟩,_⟩:=I.list h;obtain⟨its',r',⟨o',n',e',_,_,d'⟩,_⟩:=I.list h';rw[e]at e';cases e';rw[d]at d';injection d' with d1 _;have:ar=its':=by simpa using jP Array.toList d1
 subst this;exact r.inj r'
theorem Inv.ml(I:Inv X pins σ H s)(h:fb X.K H a xs)(h':fb X.K H a ys):xs=ys:=by
 obtain⟨ar,r,⟨o,e,_,n,d⟩,_⟩:=I.tuple h;obtain⟨its',r',⟨o',e',_,n',d'⟩,_⟩:=I.tuple h';rw[e]at e';cases e';rw[d]at d';injection d' with d1 _;have:ar=its':=by simpa using jP Array.toList d1
 subst this;exact r.inj r'
end
abbrev Cx.lY(X:Cx)(E:Value->Shared->Prop):Cx:={X with xe:=E}
abbrev Cx.Fe(X:Cx):Cx:=X.lY λ_ _=>False
theorem Cx.Ok.lY{X:Cx}(ok:X.Ok)(E:Value->Shared->Prop):(X.lY E).Ok :=
 ⟨ok.mod,ok.kind,ok.glob,ok.blt,ok.above,ok.inj,ok.has,ok.Fc,ok.hd,ok.frames,ok.Lc,ok.Rg,ok.bs,ok.Br,ok.uX,ok.uY,ok.jR,ok.G_⟩
theorem Cx.Ok.fX{X:Cx}{E:Value->Shared->Prop}(ok:(X.lY E).Ok):X.Ok :=
 ⟨ok.mod,ok.kind,ok.glob,ok.blt,ok.above,ok.inj,ok.has,ok.Fc,ok.hd,ok.frames,ok.Lc,ok.Rg,ok.bs,ok.Br,ok.uX,ok.uY,ok.jR,ok.G_⟩
section
variable {X:Cx} {pins:List (Addr×Obj)} {σ:St} {H:Hp} {s:Shared} {E:Value->Shared->Prop}
theorem Inv.lY(I:Inv X pins σ H s)(E:Value->Shared->Prop):Inv (X.lY E) pins σ H s:=⟨I.ok.lY E,I.os,I.bare,I.base,I.loc,I.cell,I.free,I.fW,I.pin,I.bY,I.len⟩
theorem Inv.fX(I:Inv (X.lY E) pins σ H s):Inv X pins σ H s:=⟨I.ok.fX,I.os,I.bare,I.base,I.loc,I.cell,I.free,I.fW,I.pin,I.bY,I.len⟩
theorem SP.fX{D:kj}{f:Flow}{s':Shared}(h:SP (X.lY E) pins D f s'):SP X pins D f s':=by
 cases f with
 | next=>obtain⟨cE,H',I,q⟩:=h;exact⟨cE,H',I.fX,q⟩
 | brk=>obtain⟨cE,H',I,q⟩:=h;exact⟨cE,H',I.fX,q⟩
 | cont=>obtain⟨cE,H',I,q⟩:=h;exact⟨cE,H',I.fX,q⟩
 | ret u=>obtain⟨v,cE,H',I,r,q⟩:=h;exact⟨v,cE,H',I.fX,r,q⟩
end
section
variable {X:Cx} {st:Stmt} {eg:List Stmt} {t u:TS} {e:Expr} {te:TE} {pos:Pos}
def N1:TS:=λD σ H=>D.nx σ H
def N2(t u:TS):TS:=λD σ H=>t {D with nx:=u D} σ H
theorem Bu:u4 X [] N1:=λ_ _ σ H _ I h=>Bm ⟨σ,H,I,h⟩
theorem xW(h1:PS X st t)(h2:u4 X eg u):u4 X (st::eg) (N2 t u):=by
 intro pins s σ H D I h;refine wpAny_execs_cons (cj (h1 pins s σ H {D with nx:=u D} I h) λf s1 q=>?_)
 cases f with
 | next =>
  obtain⟨cE,H',I',q⟩:=q;exact h2 pins s1 cE H' D I' q
 | ret v=>exact q
 | brk=>exact q
 | cont=>exact q
theorem Inv.quiet{pins:List (Addr×Obj)}{σ:St}{H:Hp}{s:Shared}(I:Inv X pins σ H s):interactive X.env=false:=by simp[interactive,I.ok.kind]
noncomputable def N3(te:TE):TS:=λD σ H=>te σ H λ_ H1=>D.nx σ H1
theorem sN(he:PE X e te)(hs:swapsWith e none pos.line X.env=pure false:=by rfl):PS X (.Expr e pos) (N3 te):=by
 intro pins s σ H D I h;exact wpAny_Expr_any (cj (he pins s σ H _ I h) λv s1 ⟨x,H1,I1,r1,q1⟩=>⟨σ,H1,I1,q1⟩) I.quiet hs
def SO(te:TE):TS:=λD σ H=>te σ H D.rt
theorem xX(he:PE X e te):PS X (.Return (some e) pos) (SO te):=by
 intro pins s σ H D I h;exact wpAny_Return_some (cj (he pins s σ H _ I h) λv s1 ⟨x,H1,I1,r1,q1⟩=>⟨x,σ,H1,I1,r1,q1⟩)
noncomputable def SQ(c:TT)(t u:TS):TS:=λD σ H=>c σ H λb H1=>if b=true then t D σ H1 else u D σ H1
theorem N4{c:Expr}{a b:List Stmt}{tc:TT}(hc:PT X c tc)(ha:u4 X a t)(hb:u4 X b u):PS X (.If c a b pos) (SQ tc t u):=by
 intro pins s σ H D I h;refine wpAny_If (cj (hc pins s σ H _ I h) ?_);rintro d s1 ⟨H1,I1,q1⟩
 cases d with
 | true=>exact ha pins s1 σ H1 D I1 q1
 | false=>exact hb pins s1 σ H1 D I1 q1
def Hi:TS:=λ_ _ _=>False
theorem xY:PS X st Hi:=λ_ _ _ _ _ _ h=>h.elim
end
abbrev TG:=V->St->Hp->(St->Hp->Prop)->Prop
abbrev Ff:=List V->St->Hp->(St->Hp->Prop)->Prop
def PG(X:Cx)(jh:Expr)(t:TG):Prop :=
 ∀(pins:List (Addr×Obj))(s:Shared)(σ:St)(H:Hp)(v:V)(u:Value)(Q:St->Hp->Prop),Inv X pins σ H s->RelV v u->t v σ H Q ->
  wpAny (model X.prog X.w) X.A (assign jh X.env u) (λ_ s'=>∃cE H',Inv X pins cE H' s'/\Q cE H') X.xe s
noncomputable def Ld(X:Cx)(ts:List Expr)(t:Ff):Prop :=
 ∀(pins:List (Addr×Obj))(s:Shared)(σ:St)(H:Hp)(vs:List V)(us:List Value)(Q:St->Hp->Prop),Inv X pins σ H s->aE vs us->t vs σ H Q ->
  wpAny (model X.prog X.w) X.A (assignInOrder ((assignEach ts X.env).map (·.2)) us) (λ_ s'=>∃cE H',Inv X pins cE H' s'/\Q cE H') X.xe s
abbrev Bv:=V->V->V->Hp->(Hp->Prop)->Prop
def Hj(X:Cx)(t:Bv):Prop :=
 ∀(pins:List (Addr×Obj))(s:Shared)(σ:St)(H:Hp)(o i v:V)(ov iv u:Value)(Q:Hp->Prop),Inv X pins σ H s->RelV o ov->RelV i iv->RelV v u->t o i v H Q ->
  wpAny (model X.prog X.w) X.A (setItem ov iv u) (λ_ s'=>∃H',Inv X pins σ H' s'/\Q H') X.xe s
section
variable {X:Cx} {pos:Pos}
def Fg(i:Nat):TG:=λv σ H Q=>Q (σ.set i (some v)) H
theorem nz{i:Nat}{x:Str}(hN:X.N.Nodup)(hi:X.N[i]?=some x)(hx:Loc X.env.scope x)(hf:X.fn x=true\/X.env.scope.names.lookup x=some .local:=by first | exact .inl rfl | exact .inr rfl | assumption):PG X (.Name x pos) (Fg i):=by
 intro pins s σ H v u Q I r h;exact wpAny_assign_Name (xR I hN hi hx r (λs' I'=>⟨_,H,I',h⟩) hf)
def N5:Ff:=λvs σ H Q=>vs=[]/\Q σ H
noncomputable def Fh(t:TG)(u:Ff):Ff:=λvs σ H Q=>∃v r,vs=v::r/\t v σ H λcE H'=>u r cE H' Q
theorem Bw:Ld X [] N5:=by
 intro pins s σ H vs us Q I r h;obtain⟨e,h⟩:=h;subst e;cases r;exact assignInOrder_nil ⟨σ,H,I,h⟩
theorem xZ{e:Expr}{es:List Expr}{t:TG}{u:Ff}(h1:PG X e t)(h2:Ld X es u)(hs:(assignEach (e::es) X.env).map (·.2)=assign e X.env::(assignEach es X.env).map (·.2):=by rfl):Ld X (e::es) (Fh t u):=by
 intro pins s σ H vs us Q I r h;obtain⟨v,vr,e1,h⟩:=h;subst e1
 cases r with
 | cons r rr =>
  rw[hs];refine assignInOrder_cons (cj (h1 pins s σ H _ _ _ I r h) ?_);rintro _ s1 ⟨V9,H1,I1,q1⟩;exact h2 pins s1 V9 H1 _ _ Q I1 rr q1
def SS(K:PySem.W.Frag)(n:Nat)(t:Ff):TG:=λv σ H Q=>∃a xs,v=.ref a/\fb K H a xs/\xs.length=n/\t xs σ H Q
theorem Hk{es:List Expr}{k:Nat}{t:Ff}{n:Nat}(hc:X.calm=true)(h:Ld X es t)(hn:(assignEach es X.env).length=n:=by rfl)(jX:(assignEach es X.env).findIdx? (·.1)=none:=by rfl):PG X (.Tuple es k pos) (SS X.K n t):=by
 intro pins s σ H v u Q I r hw;obtain⟨a,xs,e1,hq,hl,hw⟩:=hw;subst e1;cases r;obtain⟨ar,rv,ht,hz⟩:=I.tuple hq;refine assign_Tuple_tuple (I.ok.hd hc) ht (by simp[hn,<- hl,rv.length]) jX λh' hx=>?_;have I1:Inv X pins σ H {s with heap:=h'}:=I.kept (t':=s.toks) λb o e=>hx b o (fg (cg e)) e;exact h pins _ σ H xs _ Q I1 (by simpa using rv) hw
noncomputable def SU(to ti:TE)(t:Bv):TG:=λv σ H Q=>to σ H λo H1=>ti σ H1 λi H2=>t o i v H2 λH3=>Q σ H3
theorem Hl {o i : Expr} {to ti : TE} {t : Bv} (ho : PE X o to) (hi : PE X i ti) (hs : Hj X t)
    (ha:∀v,assign (.Subscript o i pos) X.env v=(do
      let ov <- holding [v] (eval o X.env)
      let iv <- holding [v,ov] (eval i X.env)
      standAt pos
      holding [v,ov,iv] (setItem ov iv v)
      release [v,ov,iv] []):=by intro _;rfl):PG X (.Subscript o i pos) (SU to ti t):=by
  intro pins s σ H v u Q I r h;rw[ha];refine ai (m9 (cj (ho pins s σ H _ I h) ?_));rintro ov s1 ⟨x,H1,I1,r1,q1⟩;refine ai (m9 (cj (hi pins s1 σ H1 _ I1 q1) ?_));rintro iv s2 ⟨y,H2,I2,r2,q2⟩;refine ai (wpAny_standAt (ai (m9 (cj (hs pins s2 σ H2 x y v ov iv u _ I2 r1 r2 r q2) ?_))));rintro _ s3 ⟨H3,I3,q3⟩;exact wpAny_release ⟨σ,H3,I3,q3⟩
noncomputable def N6(te:TE)(g:TG):TS:=λD σ H=>te σ H λx H1=>g x σ H1 D.nx
theorem qO{tg e:Expr}{te:TE}{g:TG}(he:PE X e te)(hg:PG X tg g)(hs:swapsWithSole [tg] e pos.line X.env=pure false:=by rfl)(hw:swappedStores [tg] e X.env=pure none:=by rfl)(h1:(assignEach [tg] X.env).map (·.2)=[assign tg X.env]:=by rfl):PS X (.Assign [tg] e pos) (N6 te g):=by
 intro pins s σ H D I h;refine wpAny_Assign_stores (cj (he pins s σ H _ I h) ?_) hs hw;rintro v s1 ⟨x,H1,I1,r1,q1⟩;rw[h1];exact cj (hg pins s1 σ H1 x v _ I1 r1 q1) λ_ s2 q=>q
end
structure It where
 go:Nat->Hp->Prop
 N7:Nat->Hp->V->Hp->Prop
 stop:Nat->Hp->Prop
noncomputable def jS(X:Cx)(pins:List (Addr×Obj))(H:Hp)(b:Addr):Prop :=
 H b=none/\b≠X.env.locals/\b∉X.fs/\(b∈X.ex\/X.dI.heap.objs.size<=b)/\(∀x c,X.env.cells.lookup x=some c->c≠b)/\∀p∈X.pn++pins,p.1≠b
theorem Inv.x3{X:Cx}{pins:List (Addr×Obj)}{σ:St}{H H':Hp}{s:Shared}{b:Addr}(I:Inv X pins σ H s)(hb:s.heap.objs.size<=b)(hn:H' b=none):jS X pins H' b:=by
 refine⟨hn,Nat.ne_of_gt (fc I.lt hb),I.NR hb,.inr (fh I.sz hb),λx c e z=>?_,λp hp z=>?_⟩
 ·obtain⟨v,q⟩:=I.cell x c e;exact absurd (fc q.lt (by rw[z];exact hb)) (jO _)
 ·exact absurd (fc (cg (I.pin p hp).1) (by rw[z];exact hb)) (jO _)
structure qP (P:Program) (w:World) (K:PySem.W.Frag) (tg:Expr) (J:It) (fp:List Addr) (it:Addr) (tn:Nat->Heap->Prop):Prop where
 mem:it∈fp
 obj:∀i h,tn i h->∀b∈fp,∃o,h.get? b=some o/\∀v,o.data≠.cell v
 keep:∀i h h',tn i h->(∀b∈fp,∀o,h.get? b=some o->h'.get? b=some o)->tn i h'
 item:∀(X:Cx),X.prog=P->X.w=w->X.K=K->X.calm=true->∀(i:Nat)(pins:List (Addr×Obj))(s:Shared)(σ:St)(H:Hp)(E:Value->Shared->Prop),Inv X pins σ H s->(∀b∈fp,jS X pins H b)->tn i s.heap->J.go i H ->
  wpAny (model P w) X.A (pyNext (.ref it)) (λr s1=>∃u,r=some u /\
   wpAny (model P w) X.A (letOwnedTupleGo tg (.ref it) u) (λ_ s2=>∃x H',Inv X pins σ H' s2/\RelV x u/\J.N7 i H x H'/\tn (i+1) s2.heap/\∀b∈fp,H' b=none) E s1) E s
 done:∀(X:Cx),X.prog=P->X.w=w->X.K=K->X.calm=true->∀(i:Nat)(pins:List (Addr×Obj))(s:Shared)(σ:St)(H:Hp)(E:Value->Shared->Prop),Inv X pins σ H s->(∀b∈fp,jS X pins H b)->tn i s.heap->J.stop i H ->
  wpAny (model P w) X.A (pyNext (.ref it)) (λr s1=>r=none/\Inv X pins σ H s1) E s
 self:∀(A:Around)(i:Nat)(s:Shared)(Q:Value->Shared->Prop)(E:Value->Shared->Prop),tn i s.heap->Q (.ref it) s->wpAny (model P w) A (pyIter (.ref it)) Q E s
abbrev TI:=St->Hp->(It->Hp->Prop)->Prop
def V_(X:Cx)(pins:List (Addr×Obj))(σ:St)(tg:Expr)(R:It->Hp->Prop)(Rj:Value)(s2:Shared):Prop :=
 ∃(it:Addr) (fp:List Addr) (tn:Nat->Heap->Prop) (J:It) (H':Hp),Rj=.ref it/\Inv X pins σ H' s2/\qP X.prog X.w X.K tg J fp it tn/\tn 0 s2.heap/\(∀b∈fp,jS X pins H' b)/\R J H'
def PI(X:Cx)(tg aD:Expr)(wi:TI):Prop :=
 ∀(pins:List (Addr×Obj))(s:Shared)(σ:St)(H:Hp)(R:It->Hp->Prop),Inv X pins σ H s->wi σ H R ->
  wpAny (model X.prog X.w) X.A (eval aD X.env) (λv s1=>wpAny (model X.prog X.w) X.A (pyIter v) (V_ X pins σ tg R) X.xe s1) X.xe s
theorem sO{M:Model}{A:Around}{E:Value->Shared->Prop}{s:Shared}{tg:Expr}{it:Addr}{u:Value}{o:Obj}{n:String}{vs:Array Value}{Q:Unit->Shared->Prop}(ho:s.heap.get? it=some o)(hc:o.cls=.type n)(hd:o.data=.fields vs) (hn:["enumerate","zip","dict_itemiterator","dict_reverseitemiterator","odict_iterator","itertools.zip_longest","itertools.pairwise"].contains n=false) (hQ:Q () s):wpAny M A (letOwnedTupleGo tg (.ref it) u) Q E s:=by
  unfold letOwnedTupleGo
  cases tg<;>first
    | exact bg hQ
    | (cases u <;> first
        | exact bg hQ
        | (refine ai (wpAny_load ho ?_)
           rw[hc,hd];show wpAny M A (if (["enumerate","zip","dict_itemiterator","dict_reverseitemiterator","odict_iterator","itertools.zip_longest","itertools.pairwise"].contains n&&vs[0]? == some (rawInt _))=true then _ else _) Q E s;rw[aT (by intro h;rw[hn,Bool.false_and]at h;cases h)];exact bg hQ))
noncomputable def SV(K:PySem.W.Frag)(a:Addr):It :=
 ⟨λi H=>∃xs x,eF K H a xs/\xs[i]?=some x,λi H x H'=>H'=H/\∀xs,eF K H a xs->xs[i]?=some x,λi H=>∃xs,eF K H a xs/\xs.length<=i⟩
noncomputable def SW(K:PySem.W.Frag)(a:Addr):It :=
 ⟨λi H=>∃xs x,fb K H a xs/\xs[i]?=some x,λi H x H'=>H'=H/\∀xs,fb K H a xs->xs[i]?=some x,λi H=>∃xs,fb K H a xs/\xs.length<=i⟩
noncomputable def N8(lo:Int)(n:Nat):It:=⟨λi _=>i<n,λi H x H'=>H'=H/\x=.int (lo+i),λi _=>n<=i⟩
theorem u5{P:Program}{w:World}{K:PySem.W.Frag}{tg:Expr}(a it:Addr):qP P w K tg (SV K a) [it] it (λi h=>h.IsListIter it a i) where
 mem:=by simp
 obj:=λi h st b hb=>by
  have e:b=it:=by simpa using hb
  subst e;obtain⟨o,e,c,d⟩:=st;exact⟨o,e,λv z=>by rw[d]at z;cases z⟩
 keep:=λi h h' st k=>st.at λo e=>k it (by simp) o e
 item:=by
  intro X hP hw hK hc i pins s σ H E I hf st hg;subst hP hw hK;obtain⟨xs,x,hq,hx⟩:=hg;obtain⟨ar,rv,p,hz⟩:=I.list hq;obtain⟨u,hu,ru⟩:=rv.get hx;obtain⟨f0,f1,f2,f3,f4,f5⟩:=hf it (by simp);refine wpAny_pyNext_list_item st p.isList (x:=u) (by simpa using hu) λh' mn sb=>?_;have I1:Inv X pins σ H {s with heap:=h'}:=I.turned (t':=s.toks) (λb o hb e=>(sb.2 b hb).trans e) f0 f1 f3 f4 f5;obtain⟨o,e,c,d⟩:=id mn;exact⟨u,rfl,sO (s:={s with heap:=h'}) e c d (by decide) ⟨x,H,I1,ru,⟨rfl,λys hy=>by rw[I.oZ hy hq];exact hx⟩,mn,λb hb=>(hf b hb).1⟩⟩
 done:=by
  intro X hP hw hK hc i pins s σ H E I hf st hg;subst hP hw hK;obtain⟨xs,hq,hx⟩:=hg;obtain⟨ar,rv,p,hz⟩:=I.list hq;obtain⟨f0,f1,f2,f3,f4,f5⟩:=hf it (by simp);have hl:=rv.length;exact wpAny_pyNext_list_end (I.ok.hd hc) st p.isList (by simp;omega) λh' eb=>⟨rfl,I.turned (t':=s.toks) (λb o hb e=>eb b o hb e) f0 f1 f3 f4 f5⟩
 self:=λ_ _ _ _ _ st h=>wpAny_pyIter_listiter st h
theorem qQ{P:Program}{w:World}{K:PySem.W.Frag}{tg:Expr}(a it:Addr):qP P w K tg (SW K a) [it] it (λi h=>h.IsTupleIter it a i) where
 mem:=by simp
 obj:=λi h st b hb=>by
  have e:b=it:=by simpa using hb
  subst e;obtain⟨o,e,c,d⟩:=st;exact⟨o,e,λv z=>by rw[d]at z;cases z⟩
 keep:=λi h h' st k=>st.at λo e=>k it (by simp) o e
 item:=by
  intro X hP hw hK hc i pins s σ H E I hf st hg;subst hP hw hK;obtain⟨xs,x,hq,hx⟩:=hg;obtain⟨ar,rv,p,hz⟩:=I.tuple hq;obtain⟨u,hu,ru⟩:=rv.get hx;obtain⟨f0,f1,f2,f3,f4,f5⟩:=hf it (by simp);refine wpAny_pyNext_tuple_item st (show s.heap.IsTuple a ar.toArray from p) (x:=u) (by simpa using hu) λh' mn sb=>?_;have I1:Inv X pins σ H {s with heap:=h'}:=I.turned (t':=s.toks) (λb o hb e=>(sb.2 b hb).trans e) f0 f1 f3 f4 f5;obtain⟨o,e,c,d⟩:=id mn;exact⟨u,rfl,sO (s:={s with heap:=h'}) e c d (by decide) ⟨x,H,I1,ru,⟨rfl,λys hy=>by rw[I.ml hy hq];exact hx⟩,mn,λb hb=>(hf b hb).1⟩⟩
 done:=by
  intro X hP hw hK hc i pins s σ H E I hf st hg;subst hP hw hK;obtain⟨xs,hq,hx⟩:=hg;obtain⟨ar,rv,p,hz⟩:=I.tuple hq;obtain⟨f0,f1,f2,f3,f4,f5⟩:=hf it (by simp);have hl:=rv.length;exact wpAny_pyNext_tuple_end (I.ok.hd hc) st (show s.heap.IsTuple a ar.toArray from p) (by simp;omega) λh' eb=>⟨rfl,I.turned (t':=s.toks) (λb o hb e=>eb b o hb e) f0 f1 f3 f4 f5⟩
 self:=λ_ _ _ _ _ st h=>wpAny_pyIter_tupleiter st h
theorem qR{P:Program}{w:World}{K:PySem.W.Frag}{tg:Expr}(it:Addr)(lo:Int)(n:Nat):qP P w K tg (N8 lo n) [it] it (λi h=>IsRangeIter h it (lo+(i:Nat)*1) ((n:Int)-(i:Nat)) 1) where
 mem:=by simp
 obj:=λi h st b hb=>by
  have e:b=it:=by simpa using hb
  subst e
  exact⟨_,st,λv z=>by
   have z':Data.fields _=Data.cell v:=z;cases z'⟩
 keep:=λi h h' st k=>k it (by simp) _ st
 item:=by
  intro X hP hw hK hc i pins s σ H E I hf st hg;subst hP hw hK;obtain⟨f0,f1,f2,f3,f4,f5⟩:=hf it (by simp);have W:=Walks.range (prog:=X.prog) (w:=X.w) (I.ok.hd hc) it lo 1 n;refine W.item i s _ _ hg st λv h' tk hv mn kk=>?_;obtain⟨t,rfl⟩:=hv;have I1:Inv X pins σ H {s with heap:=h',toks:=tk}:=I.turned (λb o hb e=>kk b o (by simpa using hb) e) f0 f1 f3 f4 f5;refine⟨_,rfl,sO (s:={s with heap:=h',toks:=tk}) (n := "range_iterator") mn rfl rfl (by decide) ⟨.int (lo+i),H,I1,⟨t,?_⟩,⟨rfl,rfl⟩,mn,λb hb=>(hf b hb).1⟩⟩;rw[Int.mul_one]
 done:=by
  intro X hP hw hK hc i pins s σ H E I hf st hg;subst hP hw hK;obtain⟨f0,f1,f2,f3,f4,f5⟩:=hf it (by simp);exact wpAny_pyNext_range_end (I.ok.hd hc) st (by have:n<=i:=hg;omega) λh' eb=>⟨rfl,I.turned (t':=s.toks) (λb o hb e=>eb b o hb e) f0 f1 f3 f4 f5⟩
 self:=λ_ _ _ _ _ st h=>wpAny_pyIter_rangeiter st h
section
variable {X:Cx} {tg:Expr}
def N9(K:PySem.W.Frag)(tl:TE):TI:=λσ H R=>tl σ H λx H1=>∃a,x=.ref a/\(∃xs,eF K H1 a xs)/\R (SV K a) H1
def SX(K:PySem.W.Frag)(tl:TE):TI:=λσ H R=>tl σ H λx H1=>∃a,x=.ref a/\(∃xs,fb K H1 a xs)/\R (SW K a) H1
theorem nA{l:Expr}{tl:TE}(hl:PE X l tl):PI X tg l (N9 X.K tl):=by
 intro pins s σ H R I h;refine cj (hl pins s σ H _ I h) ?_;rintro v s1 ⟨x,H1,I1,r1,q1⟩;obtain⟨a,e,⟨xs,hq⟩,q⟩:=q1;subst e;cases r1;obtain⟨ar,rv,p,hz⟩:=I1.list hq;refine uL p.isList ?_;refine⟨s1.heap.objs.size,[s1.heap.objs.size],_,_,H1,rfl,I1.kept (t':=s1.toks) λb o e=>bQ _ e,u5 a _,⟨_,d5 _ rfl,rfl,rfl⟩,λb hb=>?_,q⟩;have e:b=s1.heap.objs.size:=by simpa using hb
 subst e;exact I1.x3 (a7 _) (I1.bY.fresh (a7 _))
theorem x4{l:Expr}{tl:TE}(hl:PE X l tl):PI X tg l (SX X.K tl):=by
 intro pins s σ H R I h;refine cj (hl pins s σ H _ I h) ?_;rintro v s1 ⟨x,H1,I1,r1,q1⟩;obtain⟨a,e,⟨xs,hq⟩,q⟩:=q1;subst e;cases r1;obtain⟨ar,rv,p,hz⟩:=I1.tuple hq;refine uJ (show s1.heap.IsTuple a ar.toArray from p) ?_;refine⟨s1.heap.objs.size,[s1.heap.objs.size],_,_,H1,rfl,I1.kept (t':=s1.toks) λb o e=>bQ _ e,qQ a _,⟨_,d5 _ rfl,rfl,rfl⟩,λb hb=>?_,q⟩;have e:b=s1.heap.objs.size:=by simpa using hb
 subst e;exact I1.x3 (a7 _) (I1.bY.fresh (a7 _))
theorem o_{pins:List (Addr×Obj)}{σ:St}{H:Hp}{s:Shared}{R:It->Hp->Prop}{E:Value->Shared->Prop}{lo hi:Int}{t u v:Tok}{tk:Nat}(I:Inv X pins σ H s)(h1:-(2 ^ 62)<=lo)(h2:lo<2 ^ 62)(h3:-(2 ^ 62)<=hi)(h4:hi<2 ^ 62)(q:R (N8 lo (hi-lo).toNat) H):wpAny (model X.prog X.w) X.A (pyIter (.ref s.heap.objs.size)) (V_ X pins σ tg R) E {s with heap:=s.heap.push {cls:=.type "range",data:=.fields #[.int lo t,.int hi u,.int 1 v]},toks:=tk}:=by
 refine wpAny_pyIter_range (IsRange.new ..) (small_one h1 h2 h3 h4) ?_;have I1:Inv X pins σ H {s with heap:=s.heap.push {cls:=.type "range",data:=.fields #[.int lo t,.int hi u,.int 1 v]},toks:=tk}:=I.kept λb o e=>bQ _ e
 refine⟨(s.heap.push {cls:=.type "range",data:=.fields #[.int lo t,.int hi u,.int 1 v]}).objs.size,[(s.heap.push {cls:=.type "range",data:=.fields #[.int lo t,.int hi u,.int 1 v]}).objs.size],_,_,H,rfl,
  I1.kept (t':=tk) λb o e=>bQ _ e,qR _ lo (hi-lo).toNat,?_,λb hb=>?_,q⟩
 ·have e1:lo+((0:Nat):Int)*1=lo:=by simp
  have e2:(((hi-lo).toNat:Nat):Int)-((0:Nat):Int)=Builtin.Range.rangeSize lo hi 1:=by rw[rangeSize_one];split<;>omega
  show IsRangeIter _ _ (lo+((0:Nat):Int)*1) ((((hi-lo).toNat:Nat):Int)-((0:Nat):Int)) 1;rw[e1,e2];exact d5 _ rfl
 ·have e:b=(s.heap.push {cls:=.type "range",data:=.fields #[.int lo t,.int hi u,.int 1 v]}).objs.size:=by simpa using hb
  subst e;exact I1.x3 (a7 _) (I1.bY.fresh (a7 _))
def N_(ta:TA):TI:=λσ H R=>ta σ H λvs H1=>∃j:Int,vs=[.int j]/\-(2 ^ 62)<=j/\j<2 ^ 62/\R (N8 0 j.toNat) H1
def Oa(ta:TA):TI:=λσ H R=>ta σ H λvs H1=>∃i j:Int,vs=[.int i,.int j]/\(-(2 ^ 62)<=i/\i<2 ^ 62/\-(2 ^ 62)<=j/\j<2 ^ 62)/\R (N8 i (j-i).toNat) H1
theorem u6{a:Expr}{ta:TA}{p pos:Pos} (hg:Gl X "range") (hm:X.mg "range" = none) (ha:PA X [a] ta) (hs:starEach [a] X.env=[(false,eval a X.env)]:=by rfl):PI X tg (.Call (.Name "range" p) [a] [] pos) (N_ ta):=by
 intro pins s σ H R I h;refine Call_ (jg I hg hm boot_range (AZ (cj (ha pos pins s σ H _ I h) ?_) hs rfl));rintro us s1 ⟨vs,H1,I1,r1,q1⟩;obtain⟨j,e,q1,q2,q⟩:=q1;subst e
 cases r1 with
 | cons r rr =>
  cases rr;obtain⟨t,rfl⟩:=r;exact call_range_1 (o_ I1 ∅ ∅ q1 q2 (by simpa using q))
theorem u7{a b:Expr}{ta:TA}{p pos:Pos} (hg:Gl X "range") (hm:X.mg "range" = none) (ha:PA X [a,b] ta) (hs:starEach [a,b] X.env=[(false,eval a X.env),(false,eval b X.env)]:=by rfl) (x5:starEach [b] X.env=[(false,eval b X.env)]:=by rfl):PI X tg (.Call (.Name "range" p) [a,b] [] pos) (Oa ta):=by
 intro pins s σ H R I h;refine Call_ (jg I hg hm boot_range (AZ (cj (ha pos pins s σ H _ I h) ?_) (by rw[hs,x5]) (by rw[x5];rfl)));rintro us s1 ⟨vs,H1,I1,r1,q1⟩;obtain⟨i,j,e,⟨q1,q2,q3,q4⟩,q⟩:=q1;subst e
 cases r1 with
 | cons r rr =>
  cases rr with
  | cons r' rr =>
   cases rr;obtain⟨t,rfl⟩:=r;obtain⟨t',rfl⟩:=r';exact call_range_2 (o_ I1 q1 q2 q3 q4 q)
noncomputable def SY(wi:TI)(g:TG)(tb:TS):TS:=λD σ H=>wi σ H λJ H1=>∃W:Nat->Nat->St->Hp->Prop,(∃m,W 0 m σ H1)/\∀i m σ H,W i m σ H ->
 (J.stop i H/\D.nx σ H)\/(J.go i H/\∃N:St->Hp->Prop,(∀cE H',N cE H'->∃m',m'<m/\W (i+1) m' cE H')/\∀x H',J.N7 i H x H'->g x σ H' λHm H2=>tb {D with nx:=N,ct:=N,bk:=D.nx} Hm H2)
noncomputable def ji(fp:List Addr)(h:Heap):List (Addr×Obj):=fp.filterMap λb=>(h.get? b).map λo=>(b,o)
theorem fB{fp:List Addr}{h:Heap}{b:Addr}{o:Obj}(hb:b∈fp)(e:h.get? b=some o):(b,o)∈ji fp h:=List.mem_filterMap.mpr ⟨b,hb,by rw[e];rfl⟩
theorem u9{fp:List Addr}{h:Heap}{p:Addr×Obj}(hp:p∈ji fp h):p.1∈fp/\h.get? p.1=some p.2:=by
 obtain⟨b,hb,e⟩:=List.mem_filterMap.mp hp
 cases q:h.get? b with
 | none=>rw[q]at e;cases e
 | some o =>
  rw[q]at e;have e':(b,o)=p:=cH e;subst e';exact⟨hb,q⟩
theorem Inv.pinned{pins:List (Addr×Obj)}{σ:St}{H:Hp}{s:Shared}{fp:List Addr}(I:Inv X pins σ H s)(hf:∀b∈fp,jS X pins H b)(ho:∀b∈fp,∃o,s.heap.get? b=some o/\∀v,o.data≠.cell v):Inv X (pins++ji fp s.heap) σ H s :=
 I.nq λp hp=>(fN.mp hp).elim (λz=>I.pin p (gW _ z)) λz=>by
  obtain⟨hb,e⟩:=u9 z;obtain⟨f0,f1,f2,_⟩:=hf p.1 hb;obtain⟨o,e',d⟩:=ho p.1 hb;rw[e]at e';cases e';exact⟨e,f0,f1,f2,d⟩
theorem Inv.fY{pins pl:List (Addr×Obj)}{σ:St}{H:Hp}{s:Shared}(I:Inv X (pins++pl) σ H s):Inv X pins σ H s:=I.nq λp hp=>I.pin p (gW _ (Bd _ hp))
theorem Hn{aD:Expr}{body:List Stmt}{wi:TI}{g:TG}{tb:TS}{pos:Pos}(hp:PassesOwn (model X.prog X.w) X.A X.env X.xe)(hc:X.calm=true)(hi:PI X tg aD wi)(hg:PG X tg g)(hb:u4 X body tb)(hs:∀x,foldedSetIterable aD X.env x=pure x:=by intro _;rfl):PS X (.For tg aD body [] pos) (SY wi g tb):=by
 intro pins s σ H D I h;refine wpAny_For (cj (hi pins s σ H _ I h) λv s1 h1=>cj h1 λRj s2 h2=>?_) hs;obtain⟨it,fp,tn,J,H2,e,I2,T,jW,f2,W,⟨m0,w0⟩,x6⟩:=h2;subst e;have Ho:∀{H':Hp},(∀b∈fp,H' b=none)->∀b∈fp,jS X pins H' b:=λhn b hb=>⟨hn b hb,(f2 b hb).2⟩;refine codeAny_forLoop_any (λn s'=>∃i cE H',Inv X pins cE H' s'/\tn i s'.heap/\(∀b∈fp,H' b=none)/\W i n cE H') ?_ m0 ⟨0,σ,H2,I2,jW,λb hb=>(f2 b hb).1,w0⟩;rintro n s3 ⟨i,Bx,H3,I3,Rk,Ob,w3⟩;rcases x6 i n Bx H3 w3 with⟨stop,qn⟩|⟨go,N,hN,step⟩
 ·refine wB hp (cj (T.done X rfl rfl rfl hc i pins s3 Bx H3 X.xe I3 (Ho Ob) Rk stop) ?_);rintro r s4 ⟨rfl,I4⟩;exact Bm ⟨Bx,H3,I4,qn⟩
 ·refine wB hp (cj (T.item X rfl rfl rfl hc i pins s3 Bx H3 X.xe I3 (Ho Ob) Rk go) ?_);rintro r s4 ⟨u,rfl,h4⟩;refine wB hp (cj h4 ?_);rintro _ s5 ⟨x,H5,I5,r5,y5,Le,Fi⟩;have XS:=I5.pinned (Ho Fi) (T.obj _ _ Le);refine wB hp (cj (hg _ s5 Bx H5 x u _ XS r5 (step x H5 y5)) ?_);rintro _ s6 ⟨XT,H6,I6,q6⟩;refine wB hp (cj (hb _ s6 XT H6 _ I6 q6) λf s7 q7=>?_)
  have again:∀{x8:St}{H7:Hp},Inv X (pins++ji fp s5.heap) x8 H7 s7->N x8 H7->∃m,m<n/\∃i cE H',Inv X pins cE H' s7/\tn i s7.heap/\(∀b∈fp,H' b=none)/\W i m cE H':=λ{x8 H7} I7 n7=>by
   obtain⟨m',hm,w7⟩:=hN x8 H7 n7;refine⟨m',hm,i+1,x8,H7,I7.fY,T.keep _ _ _ Le λb hb o e=>(I7.pin (b,o) (gW _ (gW _ (fB hb e)))).1,λb hb=>?_,w7⟩;obtain⟨o,e,d⟩:=T.obj _ _ Le b hb;exact(I7.pin (b,o) (gW _ (gW _ (fB hb e)))).2.1
  cases f with
  | next=>obtain⟨x8,H7,I7,n7⟩:=q7;exact again I7 n7
  | cont=>obtain⟨x8,H7,I7,n7⟩:=q7;exact again I7 n7
  | brk=>obtain⟨x8,H7,I7,q7⟩:=q7;exact⟨x8,H7,I7.fY,q7⟩
  | ret v=>obtain⟨x7,x8,H7,I7,r7,q7⟩:=q7;exact⟨x7,x8,H7,I7.fY,r7,q7⟩
end
abbrev R2:=V->V->Hp->VK->Prop
def gI(X:Cx)(f:Value->Value->Sem Value)(r:R2):Prop :=
 ∀(pins:List (Addr×Obj))(s:Shared)(σ:St)(H:Hp)(x y:V)(v u:Value)(Q:VK),Inv X pins σ H s->RelV x v->RelV y u->r x y H Q ->
  wpAny (model X.prog X.w) X.A (f v u) (EP X pins σ Q) X.xe s
def SZ(X:Cx)(f:Value->Sem Value)(r:V->Hp->VK->Prop):Prop :=
 ∀(pins:List (Addr×Obj))(s:Shared)(σ:St)(H:Hp)(x:V)(v:Value)(Q:VK),Inv X pins σ H s->RelV x v->r x H Q ->
  wpAny (model X.prog X.w) X.A (f v) (EP X pins σ Q) X.xe s
def eM(X:Cx)(f:Value)(r:List V->Hp->VK->Prop):Prop :=
 ∀(pins:List (Addr×Obj))(s:Shared)(σ:St)(H:Hp)(xs:List V)(us:List Value)(Q:VK),Inv X pins σ H s->aE xs us->r xs H Q ->
  wpAny (model X.prog X.w) X.A (call f us) (EP X pins σ Q) X.xe s
def S0(X:Cx)(r:V->Hp->(Bool->Hp->Prop)->Prop):Prop :=
 ∀(pins:List (Addr×Obj))(s:Shared)(σ:St)(H:Hp)(x:V)(v:Value)(Q:Bool->Hp->Prop),Inv X pins σ H s->RelV x v->r x H Q ->
  wpAny (model X.prog X.w) X.A (truthy v) (TP X pins σ Q) X.xe s
noncomputable def Lf(r:R2)(ta tb:TE):TE:=λσ H Q=>ta σ H λx H1=>tb σ H1 λy H2=>r x y H2 Q
noncomputable def XU(r:V->Hp->VK->Prop)(ta:TE):TE:=λσ H Q=>ta σ H λx H1=>r x H1 Q
noncomputable def rI(C:Int->Int->Prop)(g:Int->Int->V):R2:=λx y H Q=>∃i j,x=.int i/\y=.int j/\C i j/\Q (g i j) H
noncomputable def Fj(g:Int->Int->V):R2:=λx y H Q=>∃i j,x=.int i/\y=.int j/\Q (g i j) H
noncomputable def rU(g:Int->V):V->Hp->VK->Prop:=λx H Q=>∃i,x=.int i/\Q (g i) H
section
variable {X:Cx} {a b c:Expr} {ta tb tc:TE} {pos:Pos}
theorem Hq(ha:PE X a ta)(hb:PE X b tb){pins:List (Addr×Obj)}{s:Shared}{σ:St}{H:Hp}{R:V->V->Hp->Prop}(I:Inv X pins σ H s)(h:ta σ H λx H1=>tb σ H1 λy H2=>R x y H2){Q:Value->Shared->Prop}{f:Value->Value->Sem Value}(hf:∀v u s2 x y H2,Inv X pins σ H2 s2->RelV x v->RelV y u->R x y H2->wpAny (model X.prog X.w) X.A (f v u) Q X.xe s2):wpAny (model X.prog X.w) X.A (eval a X.env) (λv bI=>wpAny (model X.prog X.w) X.A (eval b X.env) (λu nB=>wpAny (model X.prog X.w) X.A (f v u) Q X.xe nB) X.xe bI) X.xe s:=by
 refine cj (ha pins s σ H _ I h) ?_;rintro v s1 ⟨x,H1,I1,r1,q1⟩;refine cj (hb pins s1 σ H1 _ I1 q1) ?_;rintro u s2 ⟨y,H2,I2,r2,q2⟩;exact hf v u s2 x y H2 I2 r1 r2 q2
theorem Fl{op:Operator}{r:R2}(ho:gI X (binaryOp op) r)(ha:PE X a ta)(hb:PE X b tb):PE X (.BinOp a op b pos) (Lf r ta tb):=by
 intro pins s σ H Q I h;exact wpAny_BinOp (Hq ha hb I h λv u s2 x y H2 I2 rx ry q=>ho pins s2 σ H2 x y v u Q I2 rx ry q)
theorem Oc{op:UnaryOp}{r:V->Hp->VK->Prop}(ho:SZ X (unaryOp op) r)(ha:PE X a ta):PE X (.UnaryOp op a pos) (XU r ta):=by
 intro pins s σ H Q I h;exact UnaryOp_ (cj (ha pins s σ H _ I h) λv s1 ⟨x,H1,I1,r1,q1⟩=>ho pins s1 σ H1 x v Q I1 r1 q1)
theorem Rl{f:Value->Value->Sem Value}{C:Int->Int->Prop}{g:Int->Int->Int}(rule:∀(i j:Int)(t u:Tok)(s:Shared)(Q:Value->Shared->Prop)(E:Value->Shared->Prop),C i j->Q (.int (g i j) s.toks) {s with toks:=s.toks+1}->wpAny (model X.prog X.w) X.A (f (.int i t) (.int j u)) Q E s):gI X f (rI C λi j=>.int (g i j)):=by
 intro pins s σ H x y v u Q I rx ry h;obtain⟨i,j,rfl,rfl,hc,q⟩:=h;obtain⟨t,rfl⟩:=rx;obtain⟨t',rfl⟩:=ry;exact rule i j t t' s _ _ hc ⟨.int (g i j),H,I.tok _,⟨_,rfl⟩,q⟩
theorem Od{f:Value->Value->Sem Value}{g:Int->Int->Int}(rule:∀(i j:Int)(t u:Tok)(s:Shared)(Q:Value->Shared->Prop)(E:Value->Shared->Prop),Q (.int (g i j) s.toks) {s with toks:=s.toks+1}->wpAny (model X.prog X.w) X.A (f (.int i t) (.int j u)) Q E s):gI X f (Fj λi j=>.int (g i j)):=by
 intro pins s σ H x y v u Q I rx ry h;obtain⟨i,j,rfl,rfl,q⟩:=h;obtain⟨t,rfl⟩:=rx;obtain⟨t',rfl⟩:=ry;exact rule i j t t' s _ _ ⟨.int (g i j),H,I.tok _,⟨_,rfl⟩,q⟩
theorem By{f:Value->Value->Sem Value}{g:Int->Int->Bool}(rule:∀(i j:Int)(t u:Tok)(s:Shared)(Q:Value->Shared->Prop)(E:Value->Shared->Prop),Q (.bool (g i j)) s->wpAny (model X.prog X.w) X.A (f (.int i t) (.int j u)) Q E s):gI X f (Fj λi j=>.bl (g i j)):=by
 intro pins s σ H x y v u Q I rx ry h;obtain⟨i,j,rfl,rfl,q⟩:=h;obtain⟨t,rfl⟩:=rx;obtain⟨t',rfl⟩:=ry;exact rule i j t t' s _ _ ⟨.bl (g i j),H,I,rfl,q⟩
def S1(i j:Int):Prop:=0<j/\j<1073741824
noncomputable def S2(i j:Int):Prop:=0<=j/\j<=1000000/\i.natAbs<2 ^ 64
noncomputable def Hr(i j:Int):Prop:=(-(2 ^ 64)<i/\i<2 ^ 64)\/(-(2 ^ 64)<j/\j<2 ^ 64)
theorem Hr.ok{i j:Int}(h:Hr i j):IntMulOk i j:=by
 rcases h with⟨h1,h2⟩|⟨h1,h2⟩
 ·exact .of_left (intBits_le_64 h1 h2)
 ·exact .of_right (intBits_le_64 h1 h2)
theorem Hs:gI X (binaryOp .Add) (Fj λi j=>.int (i+j)):=Od λ_ _ _ _ _ _ _ q=>add_int q
theorem Ht:gI X (binaryOp .Sub) (Fj λi j=>.int (i-j)):=Od λ_ _ _ _ _ _ _ q=>sub_int q
theorem Hu:gI X (binaryOp .Mult) (rI Hr λi j=>.int (i*j)):=Rl λ_ _ _ _ _ _ _ hc q=>mul_int q hc.ok
theorem Bz:gI X (binaryOp .FloorDiv) (rI S1 λi j=>.int (i / j)):=Rl λi j _ _ _ _ _ hc q=>by
 have h1:(0:Int)<j:=hc.1;have h2:j<1073741824:=hc.2;exact floordiv_int ∅ (by rw[Int.fdiv_eq_ediv_of_nonneg i ∅];exact q) (.inl (PyProof.noPylong_small ∅))
theorem Hv:gI X (binaryOp .Mod) (rI (λ_ j=>0<j) λi j=>.int (i % j)):=Rl λi j _ _ _ _ _ hc q=>by
 have h1:(0:Int)<j:=hc;exact mod_int' ∅ (by rw[Int.fmod_eq_emod_of_nonneg i ∅];exact q)
theorem Hw:gI X (binaryOp .Pow) (rI S2 λi j=>.int (i ^ j.toNat)):=Rl λ_ _ _ _ _ _ _ hc q=>pow_int_small hc.1 hc.2.1 hc.2.2 q
theorem XV{f:Value->Sem Value}{g:Int->Int}(rule:∀(i:Int)(t:Tok)(s:Shared)(Q:Value->Shared->Prop)(E:Value->Shared->Prop),Q (.int (g i) s.toks) {s with toks:=s.toks+1}->wpAny (model X.prog X.w) X.A (f (.int i t)) Q E s):SZ X f (rU λi=>.int (g i)):=by
 intro pins s σ H x v Q I rx h;obtain⟨i,rfl,q⟩:=h;obtain⟨t,rfl⟩:=rx;exact rule i t s _ _ ⟨.int (g i),H,I.tok _,⟨_,rfl⟩,q⟩
theorem Hx:SZ X (unaryOp .USub) (rU λi=>.int (-i)):=XV λ_ _ _ _ _ q=>neg_int q
end
section
variable {X:Cx} {a b c:Expr} {ta tb tc:TE} {pos:Pos}
theorem nC{pins:List (Addr×Obj)}{σ:St}{H:Hp}{s:Shared}{Q:VK}{k k':Bool}(I:Inv X pins σ H s)(q:Q (.bl k) H)(e:k=k'):EP X pins σ Q (.bool k') s:=by
 subst e;exact⟨.bl k,H,I,rfl,q⟩
theorem Oe:gI X (compareOp .Lt) (Fj λi j=>.bl (decide (i<j))):=By λ_ _ _ _ _ _ _ q=>lt_int q
theorem Of:gI X (compareOp .LtE) (Fj λi j=>.bl (decide (i<=j))):=By λ_ _ _ _ _ _ _ q=>le_int q
theorem Og:gI X (compareOp .Gt) (Fj λi j=>.bl (decide (j<i))):=By λ_ _ _ _ _ _ _ q=>gt_int q
theorem Oh:gI X (compareOp .GtE) (Fj λi j=>.bl (decide (j<=i))):=By λ_ _ _ _ _ _ _ q=>ge_int q
theorem u_:gI X (compareOp .Lt) (λx y H Q=>∃i j,x=.str i/\y=.str j/\Q (.bl (decide (i.cps.toList<j.cps.toList))) H):=by
 intro pins s σ H x y v u Q I rx ry h;obtain⟨i,j,rfl,rfl,q⟩:=h;obtain⟨t,rfl⟩:=rx;obtain⟨t',rfl⟩:=ry;exact lt_str (nC I q rfl)
theorem va:gI X (compareOp .In) (λx y H Q=>∃i j,x=.str i/\y=.str j/\Q (.bl (!(Builtin.Str.occurrences j i 0 j.length 1).isEmpty)) H):=by
 intro pins s σ H x y v u Q I rx ry h;obtain⟨i,j,rfl,rfl,q⟩:=h;obtain⟨t,rfl⟩:=rx;obtain⟨t',rfl⟩:=ry;exact in_str (nC I q rfl)
theorem Hy:gI X (compareOp .Is) (λx y H Q=>y=.ba/\Q (.bl (decide (x=.ba))) H):=by
 intro pins s σ H x y v u Q I rx ry h;obtain⟨rfl,q⟩:=h;cases ry;refine is_none_gen (nC I q ?_)
 cases x<;>first
  | (cases rx;rfl)
  | (obtain⟨t,rfl⟩:=rx;rfl)
theorem BA:gI X (compareOp .IsNot) (λx y H Q=>y=.ba/\Q (.bl (!decide (x=.ba))) H):=by
 intro pins s σ H x y v u Q I rx ry h;obtain⟨rfl,q⟩:=h;cases ry;refine isnot_none_gen (nC I q ?_)
 cases x<;>first
  | (cases rx;rfl)
  | (obtain⟨t,rfl⟩:=rx;rfl)
theorem BB{op:CmpOp}{r:R2}(ho:gI X (compareOp op) r)(ha:PE X a ta)(hb:PE X b tb)(hm:behindInMarks op b=false):PE X (.Compare a [op] [b] pos) (Lf r ta tb):=by
 intro pins s σ H Q I h;exact wpAny_Compare1 (Hq ha hb I h λv u s2 x y H2 I2 rx ry q=>ho pins s2 σ H2 x y v u Q I2 rx ry q) hm
noncomputable def kr(t:TE):TT:=λσ H Q=>t σ H λx H'=>∃k,x=.bl k/\Q k H'
theorem BC{op:CmpOp}{r:R2}(ho:gI X (compareOp op) r)(ha:PE X a ta)(hb:PE X b tb)(hm:behindInMarks op b=false):PT X (.Compare a [op] [b] pos) (kr (Lf r ta tb)):=by
 intro pins s σ H Q I h
 refine wpAny_isTrue_Compare1 (cj (ha pins s σ H _ I h) λv s1 ⟨x,H1,I1,r1,q1⟩=>cj (hb pins s1 σ H1 _ I1 q1) λu s2 ⟨y,H2,I2,r2,q2⟩ =>
  cj (ho pins s2 σ H2 x y v u _ I2 r1 r2 q2) λc s3 ⟨z,H3,I3,r3,k,e,q3⟩=>?_) hm
 subst e;cases r3;exact oP ⟨H3,I3,q3⟩
noncomputable def qS(r r':R2)(ta tb tc:TE):TE:=λσ H Q=>ta σ H λx H1=>tb σ H1 λy H2=>r x y H2 λz H3=>∃k,z=.bl k /\
 (if k=true then tc σ H3 λw' H4=>r' y w' H4 Q else Q (.bl false) H3)
theorem x9{op Hz:CmpOp}{r r':R2}(ho:gI X (compareOp op) r)(xQ:gI X (compareOp Hz) r')(ha:PE X a ta)(hb:PE X b tb)(hc:PE X c tc)(hm:lastMarks [op,Hz] [b,c]=false:=by with_unfolding_all rfl):PE X (.Compare a [op,Hz] [b,c] pos) (qS r r' ta tb tc):=by
 intro pins s σ H Q I h
 refine Compare_chain (cj (ha pins s σ H _ I h) λv s1 ⟨x,H1,I1,r1,q1⟩=>chain_link (cj (hb pins s1 σ H1 _ I1 q1) λu s2 ⟨y,H2,I2,r2,q2⟩ =>
  cj (ho pins s2 σ H2 x y v u _ I2 r1 r2 q2) λd s3 ⟨z,H3,I3,r3,k,e,q3⟩=>?_)) hm
 subst e;cases r3;refine oP ?_
 cases k with
 | false=>exact ite_ff ⟨.bl false,H3,I3,rfl,q3⟩
 | true=>exact ite_tt (chain_last (cj (hc pins s3 σ H3 _ I3 q3) λw' s4 ⟨z',H4,I4,r4,q4⟩=>xQ pins s4 σ H4 y z' u w' Q I4 r2 r4 q4))
theorem x_{op Hz:CmpOp}{r r':R2}(ho:gI X (compareOp op) r)(xQ:gI X (compareOp Hz) r')(ha:PE X a ta)(hb:PE X b tb)(hc:PE X c tc)(hm:lastMarks [op,Hz] [b,c]=false:=by with_unfolding_all rfl):PT X (.Compare a [op,Hz] [b,c] pos) (kr (qS r r' ta tb tc)):=by
 intro pins s σ H Q I h
 refine isTrue_chain (cj (ha pins s σ H _ I h) λv s1 ⟨x,H1,I1,r1,q1⟩=>test_link (cj (hb pins s1 σ H1 _ I1 q1) λu s2 ⟨y,H2,I2,r2,q2⟩ =>
  cj (ho pins s2 σ H2 x y v u _ I2 r1 r2 q2) λd s3 ⟨z,H3,I3,r3,k,e,q3⟩=>?_)) hm
 subst e;cases r3;refine oP ?_
 cases k with
 | false =>
  obtain⟨k',e',q'⟩:=q3;cases e';exact ite_ff ⟨H3,I3,q'⟩
 | true =>
  refine ite_tt (test_last (cj (hc pins s3 σ H3 _ I3 q3) λw' s4 ⟨z',H4,I4,r4,q4⟩=>cj (xQ pins s4 σ H4 y z' u w' _ I4 r2 r4 q4) λd' s5 ⟨z2,H5,I5,r5,k2,e2,q5⟩=>?_));subst e2;cases r5;exact oP ⟨H5,I5,q5⟩
def ya(K:PySem.W.Frag)(x:V)(H:Hp)(k:Bool):Prop :=
 match x with
 | .ba=>k=false
 | .bl b=>k=b
 | .int i=>k=(i != 0)
 | .str y=>y.length<=sizeLine/\k=((y.length:Int) != 0)
 | .NK y=>y.size<=sizeLine/\k=((y.size:Int) != 0)
 | .ref p=>(∃xs,eF K H p xs/\k=!xs.isEmpty)\/(∃xs,fb K H p xs/\k=!xs.isEmpty)\/∃ao,H p=some (.dK ao)/\k=!ao.isEmpty
 | _=>False
theorem qT{κ:Type}{ao:List (κ×V)}{vs:List (κ×Value)}(r:KV ao vs):(!vs.isEmpty)=!ao.isEmpty:=by
 cases r<;>rfl
theorem ku{xs:List V}{ar:List Value}(r:aE xs ar):(!ar.toArray.isEmpty)=!xs.isEmpty:=by
 cases r<;>simp
theorem gY:(sizeLine:Nat)<2 ^ 63:=by rw[sizeLine_eq];decide
theorem HA:S0 X (λx H Q=>∃k,ya X.K x H k/\Q k H):=by
 intro pins s σ H x v Q I rx h;obtain⟨k,e,q⟩:=h;have hl:=gY;have hs:sizeLine=16777216:=sizeLine_eq
 cases x with
 | ba =>
  cases rx;have e':k=false:=e;subst e';exact truthy_none ⟨H,I,q⟩
 | bl b =>
  cases rx;have e':k=b:=e;subst e';exact oP ⟨H,I,q⟩
 | int i =>
  obtain⟨t,rfl⟩:=rx;have e':k=(i != 0):=e;subst e';exact PySem.P.truthy_int ⟨H,I,q⟩
 | str y =>
  obtain⟨t,rfl⟩:=rx;obtain⟨hy,e'⟩:y.length<=sizeLine/\k=((y.length:Int) != 0):=e;subst e';exact PySem.P.truthy_str ∅ ⟨H,I.tok _,q⟩
 | NK y =>
  obtain⟨t,rfl⟩:=rx;obtain⟨hy,e'⟩:y.size<=sizeLine/\k=((y.size:Int) != 0):=e;subst e';exact PySem.W.truthy_bytes ∅ ⟨H,I.tok _,q⟩
 | ref p =>
  cases rx;have e':(∃xs,eF X.K H p xs/\k=!xs.isEmpty)\/(∃xs,fb X.K H p xs/\k=!xs.isEmpty)\/∃ao,H p=some (.dK ao)/\k=!ao.isEmpty:=e;rcases e' with⟨xs,hx,e'⟩|⟨xs,hx,e'⟩|⟨ao,hx,e'⟩
  ·subst e';obtain⟨ar,r,pl,hz⟩:=I.list hx;have bS:=r.length;exact wpAny_truthy_list pl.isList (by simp only[cB];omega) ⟨H,I.tok _,by rw[ku r];exact q⟩
  ·subst e';obtain⟨ar,r,pl,hz⟩:=I.tuple hx;have bS:=r.length;exact truthy_tuple pl (by simp only[cB];omega) ⟨H,I.tok _,by rw[ku r];exact q⟩
  ·subst e';obtain⟨hz,hS,vs,r,m⟩:ao.length<=sizeLine/\(p==sysModules)=false/\∃vs,KV ao vs/\s.heap.DictOf (bG X.prog X.w) p vs:=I.bY p _ hx;have bS:ao.length=vs.length:=Paired.length r;exact wpAny_truthy_dict hS m ∅ ⟨H,I.tok _,by rw[qT r];exact q⟩
 | _=>exact(show False from e).elim
theorem yb(ha:PE X a ta)(he:∀km,isTrue a X.env km=(do let v <- km;standAt a.pos;holding [v] (truthy v))):PT X a (λσ H Q=>ta σ H λx H'=>∃k,ya X.K x H' k/\Q k H'):=by
 intro pins s σ H Q I h;exact isTrue_plain (cj (ha pins s σ H _ I h) λv s1 ⟨x,H1,I1,r1,q1⟩=>HA pins s1 σ H1 x v Q I1 r1 q1) (he _)
theorem qU:gI X (binaryOp .Add) (λx y H Q=>∃i j,x=.str i/\y=.str j/\i.length+j.length<=sizeLine/\Q (.str (i++j)) H):=by
 intro pins s σ H x y v u Q I rx ry h;obtain⟨i,j,rfl,rfl,hz,q⟩:=h;obtain⟨t,rfl⟩:=rx;obtain⟨t',rfl⟩:=ry;exact add_str (λt' tk=>⟨.str (i++j),H,I.tok _,⟨_,rfl⟩,q⟩) hz
theorem vals1{x:V}{us:List Value}(r:aE [x] us):∃u,us=[u]/\RelV x u:=by
 cases r with
 | cons r1 r2=>cases r2;exact⟨_,rfl,r1⟩
theorem vals2{x y:V}{us:List Value}(r:aE [x,y] us):∃u w',us=[u,w']/\RelV x u/\RelV y w':=by
 cases r with
 | cons r1 r2 =>
  cases r2 with
  | cons r3 r4=>cases r4;exact⟨_,_,rfl,r1,r3⟩
theorem mq:eM X (.type "int") (λxs H Q=>(∃i,xs=[.int i]/\Q (.int i) H)\/∃k,xs=[.bl k]/\Q (.int (if k then 1 else 0)) H):=by
 intro pins s σ H xs us Q I r h;rcases h with⟨i,rfl,q⟩|⟨k,rfl,q⟩
 ·obtain⟨u,rfl,t,rfl⟩:=vals1 r;exact call_int_int ⟨.int i,H,I,⟨_,rfl⟩,q⟩
 ·obtain⟨u,rfl,r1⟩:=vals1 r;cases r1;exact call_int_bool ⟨.int (if k then 1 else 0),H,I.tok _,⟨_,rfl⟩,q⟩
end
structure HB (h:Heap) (x dx C:Addr) (mA:Str->Option Value):Prop where
 obj:h.get? x=some (PySem.W.instObj C dx)
 ns:h.Ns1 dx mA
 ne:dx≠x
theorem vb{h:Heap}{dx:Addr}{mA:Str->Option Value}(n:h.Ns1 dx mA):∃od,h.get? dx=some od/\∀name,PySem.W.lookIn name od=some (mA name):=by
 obtain⟨o,es,ep,ho,hd,hk,_,hm⟩:=n;refine⟨o,ho,λname=>?_⟩;have e:=hm name;unfold nsFind findBy at e;rw[<- Array.find?_toList]at e;unfold PySem.W.lookIn;rw[hd];dsimp only;split
 ·rename_i y q
  rw[q]at e;exact jP some e
 ·rename_i q
  rw[q]at e
  have a:es.toList.any (·.refKey)=false:=by
   rw[GC];intro y hy;obtain⟨z,t,S3⟩:=hk y (Array.mem_toList_iff.mp hy);simp[DictEntry.refKey,S3]
  have a':¬es.toList.any (·.refKey)=true:=by rw[a];exact aI
  rw[aT a'];exact jP some e
theorem HB.look{h:Heap}{x dx C:Addr}{mA:Str->Option Value}(I:HB h x dx C mA):∃od,PySem.W.InstAt h x (PySem.W.instObj C dx) C (some od)/\∀name,PySem.W.lookIn name od=some (mA name) :=
 let ⟨od,ho,hl⟩:=vb I.ns
 ⟨od,⟨I.obj,rfl,rfl,ho⟩,hl⟩
theorem ki.sP{v:V}{o:Option Value}(r:ki (some v) o):∃u,o=some u/\RelV v u:=by
 cases o with
 | none=>exact(show False from r).elim
 | some u=>exact⟨u,rfl,r⟩
section
variable {P:Program} {w:World} {H H':Hp} {h h':Heap} {a C dx:Addr} {fs XJ:List (Str×V)}
theorem BD(bY:gO P w H h)(e:H a=some (.ins C dx fs)):∃mA,HB h a dx C mA/\(∀f,ki (fs.lookup f) (mA f))/\PySem.Within mA (fs.map (·.1))/\fs.length<=1000/\H dx=some (.own a):=by
 obtain⟨d,z,ne,ob,mA,n,r,q⟩:=(show bX P w H h a (.ins C dx fs) from bY a _ e);exact⟨mA,⟨ob,n,ne⟩,r,q,z,d⟩
end
structure S4 (K:PySem.W.Frag) (C:Addr):Prop where
 pg:PySem.W.plainGet K C Str.empty=true
 hd:PySem.W.hasDictIn K C=true
 po:PySem.W.plainOver K C=true
 sa:PySem.W.findIn K (.ref C) "__setattr__" = some (some (.builtin "object.__setattr__"))
theorem S4.get{K:PySem.W.Frag}{C:Addr}(c:S4 K C)(f:Str):PySem.W.plainGet K C f=true:=c.pg
section
variable {X:Cx} {o e value:Expr} {f:Str} {pos XW XX:Pos} {ta tv:TE}
noncomputable def Oi:V->V->Hp->VK->Prop:=λx y H Q=>∃i j,x=.int i/\y=.int j/\Q (.int (i-j)) H
end
section
variable {X:Cx} {pins:List (Addr×Obj)} {σ:St} {H:Hp} {s:Shared} {A:Around} {E:Value->Shared->Prop} {Q:Value->Shared->Prop} {c:Value} {b:Bool}
inductive jk (K:PySem.W.Frag) (H:Hp):V->Value->Prop where
  | ba:jk K H .ba (.type "NoneType")
  | bl (x:Bool):jk K H (.bl x) (.type "bool")
  | int (i:Int):jk K H (.int i) (.type "int")
  | str (x:Str):jk K H (.str x) (.type "str")
  | La (x:UInt64):jk K H (.La x) (.type "float")
  | lst {a:Addr} {xs:List V} (e:H a=some (.lst xs)):jk K H (.ref a) (.type "list")
  | fP {a:Addr} {o:Obj} {xs:List V} (e:H a=some (.fP o (.lst xs))):jk K H (.ref a) (.type "list")
  | tup {a:Addr} {xs:List V} (e:H a=some (.tup xs)):jk K H (.ref a) (.type "tuple")
  | dK {a:Addr} {ao:List (bZ×V)} (e:H a=some (.dK ao)):jk K H (.ref a) (.type "dict")
  | dT {a:Addr} {ao:List (List bZ×V)} (e:H a=some (.dT ao)):jk K H (.ref a) (.type "dict")
  | ins {a C dx : Addr} {fs : List (Str × V)} (e : H a = some (.ins C dx fs)) (cl : S4 K C) (ha : PySem.W.findIn K (.ref C) "__class__" = some (some (.builtin "object.__class__")))
      (hn:PySem.W.specialIn K (.builtin "object.__class__") "__get__" = some (some (.builtin "getset_descriptor.__get__"))) (Wa:PySem.W.takesIn K (.builtin "object.__class__")=some true)
      (hm:PySem.W.mroIn K C (.type "object")=some true):jk K H (.ref a) (.ref C)
theorem vc{x:V}{u t:Value}(I:Inv X pins σ H s)(rx:RelV x u)(ty:jk X.K H x t)(e:PySem.W.kitOne X.K t c=some b)(h:∀tk,Q (.bool b) {s with toks:=tk}):wpAny (model X.prog X.w) A (call (.builtin "isinstance") [u,c]) Q E s:=by
 cases ty with
 | ba=>cases (show u=Value.none from rx);exact j_ PySem.W.kitx_none I.nk True.intro e (λz=>nomatch z) h
 | bl y=>cases (show u=Value.bool y from rx);exact j_ PySem.W.kitx_bool I.nk True.intro e (λz=>nomatch z) h
 | int i=>obtain⟨t,q⟩:=(show ∃t,u=Value.int i t from rx);cases q;exact j_ PySem.W.kitx_int I.nk True.intro e (λz=>nomatch z) h
 | str y=>obtain⟨t,q⟩:=(show ∃t,u=Value.str y t from rx);cases q;exact j_ PySem.W.kitx_str I.nk True.intro e (λz=>nomatch z) h
 | La y=>obtain⟨t,q⟩:=(show ∃t,u=Value.float y t from rx);cases q;exact j_ PySem.W.kitx_float I.nk True.intro e (λz=>nomatch z) h
 | @lst a xs ea =>
  cases (show u=Value.ref a from rx);obtain⟨_,_,n,_,h1⟩:=(show bX X.prog X.w H s.heap a (.lst xs) from I.bY a _ ea);exact j_ PySem.W.kitx_list I.nk ⟨_,h1,rfl⟩ e (λz=>nomatch z) h
 | @fP a ob xs ea =>
  cases (show u=Value.ref a from rx);obtain⟨_,_,_,n,_,h1⟩:=(show bX X.prog X.w H s.heap a (.fP ob (.lst xs)) from I.bY a _ ea);exact j_ PySem.W.kitx_list I.nk ⟨_,h1,rfl⟩ e (λz=>nomatch z) h
 | @tup a xs ea =>
  cases (show u=Value.ref a from rx);obtain⟨_,_,_,p⟩:=(show bX X.prog X.w H s.heap a (.tup xs) from I.bY a _ ea);obtain⟨o,h1,h2,_⟩:=p;exact j_ PySem.W.kitx_tuple I.nk ⟨o,h1,h2⟩ e (λz=>nomatch z) h
 | @dK a ao ea =>
  cases (show u=Value.ref a from rx);obtain⟨_,_,vs,_,p⟩:=(show bX X.prog X.w H s.heap a (.dK ao) from I.bY a _ ea);obtain⟨o,es,ep,h1,h2,_⟩:=p;exact j_ PySem.W.kitx_dict I.nk ⟨o,h1,h2.1⟩ e (λz=>nomatch z) h
 | @dT a ao ea =>
  cases (show u=Value.ref a from rx);obtain⟨_,_,xs,_,o,es,ep,h1,h2,_⟩:=(show bX X.prog X.w H s.heap a (.dT ao) from I.bY a _ ea);exact j_ PySem.W.kitx_dict I.nk ⟨o,h1,h2.1⟩ e (λz=>nomatch z) h
 | @ins a C dx fs ea cl ha hn Wa hm =>
  cases (show u=Value.ref a from rx);obtain⟨mA,O,_⟩:=BD I.bY ea;obtain⟨od,J,_⟩:=O.look;exact j_ (PySem.W.kitx_own (cl.get _) cl.hd ha hn Wa hm) I.nk J e (λz=>nomatch z) h
end
structure gZ (k:Nat) (A:Around):Prop where
 hd:A.handled=none
 dp:A.depth+3*k+5<recursionLimit
 un:A.units+16*k+200<cLine
 gd:A.guards=some []
theorem gZ.mono{j k:Nat}{A:Around}(r:gZ k A)(h:j<=k):gZ j A:=⟨r.hd,by have:=r.dp;omega,by have:=r.un;omega,r.gd⟩
theorem gZ.deeper{k:Nat}{A:Around}(r:gZ (k+1) A)(env:Env):gZ k (A.deeper env) :=
 ⟨r.hd,by have:=r.dp;show A.depth+1+3*k+5<_;omega,by have:=r.un;show A.units+3+16*k+200<_;omega,r.gd⟩
theorem gZ.depth{k:Nat}{A:Around}(r:gZ k A):A.depth<recursionLimit:=by have:=r.dp;omega
def S5:TA:=λ_ H Q=>Q [] H
noncomputable def Oj(ta:TE)(tr:TA):TA:=λσ H Q=>ta σ H λx H1=>tr σ H1 λxs H2=>Q (x::xs) H2
section
variable {X:Cx} {e:Expr} {es:List Expr} {te:TE} {t:TA} {pos:Pos}
theorem jl:PA X [] S5:=λ_ _ _ _ H Q I h=>Calls.spliced_nil ⟨[],H,I,.nil,h⟩
theorem d6(ha:PE X e te)(hr:PA X es t)(hs:starEach (e::es) X.env=(false,eval e X.env)::starEach es X.env:=by rfl):PA X (e::es) (Oj te t):=by
 intro pos pins s σ H Q I h;rw[hs];show wpAny _ _ (spliced ((false,eval e X.env)::backTo pos (starEach es X.env))) _ _ s;refine Calls.spliced_cons (cj (ha pins s σ H _ I h) ?_);rintro u s1 ⟨x,H1,I1,r1,q1⟩;exact cj (hr pos pins s1 σ H1 _ I1 q1) λus s2 ⟨xs,H2,I2,r2,q2⟩=>⟨x::xs,H2,I2,.cons r1 r2,q2⟩
def S6(t:TA):TE:=λσ H Q=>t σ H λxs H1=>xs.length<=sizeLine/\∀p,H1 p=none->Q (.ref p) (bH H1 p (.tup xs))
def S7(t:TA):TE:=λσ H Q=>t σ H λxs H1=>xs.length<=sizeLine/\∀p,H1 p=none->Q (.ref p) (bH H1 p (.lst xs))
theorem HC {x1} (h:PA X es t):PE X (.Tuple es x1 pos) (S6 t):=by
 intro pins s σ H Q I hq;refine wpAny_Tuple_spliced (cj (h pos pins s σ H _ I hq) λus s1 ⟨xs,H1,I1,r,z,q⟩=>⟨by rw[<- r.length];exact z,?_⟩);have hf:H1 s1.heap.objs.size=none:=I1.bY.fresh (a7 _);refine⟨.ref s1.heap.objs.size,bH H1 s1.heap.objs.size (.tup xs),I1.laid (t':=s1.toks) (λb u e=>bQ _ e) (a7 _) ?_,rfl,q _ hf⟩;exact⟨z,us,r,⟨_,d5 _ rfl,rfl,_,rfl⟩⟩
theorem HD(h:PA X es t):PE X (.List es pos) (S7 t):=by
 intro pins s σ H Q I hq;refine wpAny_List_spliced (cj (h pos pins s σ H _ I hq) λus s1 ⟨xs,H1,I1,r,z,q⟩=>⟨by rw[<- r.length];exact z,?_⟩);have hf:H1 s1.heap.objs.size=none:=I1.bY.fresh (a7 _);refine⟨.ref s1.heap.objs.size,bH H1 s1.heap.objs.size (.lst xs),I1.laid (t':=s1.toks) (λb u e=>bQ _ e) (a7 _) ?_,rfl,q _ hf⟩;exact⟨z,us,0,r,d5 _ rfl⟩
end
abbrev Sp:=List V->Hp->VK->XK->Prop
abbrev vd:=List Env->Hp->Shared->XK->Value->Shared->Prop
structure yc (P:Program) (w:World) (K:PySem.W.Frag) (mg:Str->Option Value) (base:Heap) (A:Around) (outer:List Env) (s:Shared) (H:Hp):Prop where
 frames:A.frames=some outer
 mod:Mod K mg base
 bs:∀b o,base.get? b=some o->s.heap.get? b=some o/\H b=none
 Br:base.objs.size<=s.heap.objs.size
 jR:s.heap.FunFrames base outer
 G_:∀b∈xP outer,H b=none
 bY:gO P w H s.heap
 bare:AllBare s.gens
def CE(outer:List Env)(P:Program)(w:World)(H:Hp)(s:Shared)(Q:VK)(u:Value)(s':Shared):Prop :=
 ∃v H',s'.os=s.os/\AllBare s'.gens/\Un (xP outer) [] H H' s.heap s'.heap/\gO P w H' s'.heap/\RelV v u/\Q v H'
def CR(CX:vd)(outer:List Env)(P:Program)(w:World)(H:Hp)(s:Shared)(Q:VK)(E:XK)(r:Result)(s':Shared):Prop :=
 match r with
 | .ok (.ret u)=>CE outer P w H s Q u s'
 | .ok _=>False
 | .error e=>CX outer H s E e s'
structure fR (P:Program) (w:World) (K:PySem.W.Frag) (mg:Str->Option Value) (base:Heap) (CX:vd) (k:Nat) (f:Addr) (fd:FuncData) (ps:List Str) (sp:Sp):Prop where
 len:∀vs H Q E,sp vs H Q E->vs.length=ps.length
 run:∀(A:Around)(outer:List Env)(s:Shared)(H:Hp)(args:Args)(us:List Value)(vs:List V)(Q:VK)(E:XK),gZ k A->yc P w K mg base A outer s H->BindsTo s fd args (ps.zip us)->aE vs us->sp vs H Q E ->
  codeAny (model P w) A (.call (.ref f) args) (CR CX outer P w H s Q E) s
theorem fR.mono{P:Program}{w:World}{K:PySem.W.Frag}{mg:Str->Option Value}{base:Heap}{CX:vd}{j k:Nat}{f:Addr}{fd:FuncData}{ps:List Str}{sp:Sp}(F:fR P w K mg base CX j f fd ps sp)(h:j<=k):fR P w K mg base CX k f fd ps sp:=⟨F.len,λA outer s H args us vs Q E hr=>F.run A outer s H args us vs Q E (hr.mono h)⟩
section
variable {X:Cx} {pins:List (Addr×Obj)} {σ:St} {H:Hp} {s s':Shared}
theorem Inv.S8(I:Inv X pins σ H s):yc X.prog X.w X.K X.mg X.base X.A X.stack s H :=
 ⟨I.ok.frames,I.ok.mod,I.bs,fh I.ok.Br I.sz,I.stack,I.sM,I.bY,I.bare⟩
theorem Inv.after{Q:VK}{u:Value}(I:Inv X pins σ H s)(h:CE X.stack X.prog X.w H s Q u s'):EP X pins σ Q u s':=by
 obtain⟨v,H',os,bare,un,bY,r,q⟩:=h;obtain⟨hh,g,d,t,XY⟩:=s';obtain rfl:XY=s.os:=os;exact⟨v,H',I.call (h':=hh) (g':=g) (d':=d) (t':=t) (ch:=[]) un bY bare (λb z=>absurd z (by simp)),r,q⟩
end
noncomputable def Ol(sp:Sp)(Fo:List V)(E:XK)(t:TA):TE:=λσ H Q=>t σ H λvs H1=>sp (vs++Fo) H1 Q E
noncomputable def Binds(K:PySem.W.Frag)(fd:FuncData)(ps:List Str)(ds:List Value):Prop :=
 ∀(s:Shared)(us:List Value),K.In s.heap->(us++ds).length=ps.length->BindsTo s fd ⟨us,[]⟩ (ps.zip (us++ds))
theorem Binds.all{K:PySem.W.Frag}{fd:FuncData}{ps:List Str}(h:∀us:List Value,us.length=ps.length->bindArgs fd ⟨us,[]⟩=pure (ps.zip us)):Binds K fd ps []:=λs us _ hl=>by
 rw[lU]at hl⊢;exact .of_eq (h us hl)
noncomputable def nD(CX:vd)(X:Cx)(E:XK):Prop:=∀(pins:List (Addr×Obj))(σ:St)(H:Hp)(s:Shared)(e:Value)(s':Shared),Inv X pins σ H s->CX X.stack H s E e s'->X.xe e s'
section
variable {X:Cx} {CX:vd} {k:Nat} {f C:Addr} {fd:FuncData} {ps:List Str} {sp:Sp} {Fo:List V} {ds:List Value} {E:XK} {x m:Str} {p pos yd:Pos} {e o:Expr} {es:List Expr} {ta:TE} {t:TA}
theorem ye{pins:List (Addr×Obj)}{σ:St}{H:Hp}{s:Shared}{Q:VK}{us:List Value}{vs:List V}(F:fR X.prog X.w X.K X.mg X.base CX k f fd ps sp)(hr:gZ k X.A)(hb:Binds X.K fd ps ds)(hd:aE Fo ds)(hx:nD CX X E)(I:Inv X pins σ H s)(r:aE vs us)(h:sp (vs++Fo) H Q E):wpAny (model X.prog X.w) X.A (call (.ref f) us) (EP X pins σ Q) X.xe s:=by
 have r2:aE (vs++Fo) (us++ds):=r.append hd;have hl:(us++ds).length=ps.length:=by rw[<- r2.length];exact F.len _ _ _ _ h
 refine wpAny_call (codeAny_mono (F.run X.A X.stack s H ⟨us,[]⟩ (us++ds) (vs++Fo) Q E hr I.S8 (hb s us I.nk hl) r2 h) λr s' hq=>?_)
 cases r with
 | error e=>exact hx pins σ H s e s' I hq
 | ok fl =>
  cases fl with
  | ret u=>exact I.after hq
  | next=>exact False.elim hq
  | brk=>exact False.elim hq
  | cont=>exact False.elim hq
theorem BE(F:fR X.prog X.w X.K X.mg X.base CX k f fd ps sp)(hr:gZ k X.A)(hg:Gl X x)(hm:X.mg x=some (.ref f))(hk:PySem.W.keepIn X.K (.ref f)=true)(hb:Binds X.K fd ps ds)(hd:aE Fo ds)(hx:nD CX X E)(ha:PA X (e::es) t) (Om:(x==("__debug__" : Str))=false:=by decide) (he:starEach (e::es) X.env=(false,eval e X.env)::starEach es X.env:=by rfl) (sQ:(backTo pos (starEach es X.env)).any (·.1)=false:=by rfl):PE X (.Call (.Name x p) (e::es) [] pos) (Ol sp Fo E t):=by
 intro pins s σ H Q I h;refine Bg (nw I hg hm ?_ Om);refine PySem.W.callWith_K (h₀:=X.base) I.ok.mod.Rc hk (cj (ha pos pins s σ H _ I h) λus s1 ⟨vs,H1,I1,r,q⟩=>⟨I1.nk,?_⟩) he sQ;exact ye F hr hb hd hx I1 r q
end
structure jY (N P:List Str) (sc:Scope):Prop where
 kind:sc.kind=.function
 co:sc.isCoroutine=false
 gen:sc.isGenerator=false
 nd:N.Nodup
 pre:N.take P.length=P
 par:∀x∈P,sc.names.lookup x=some .local\/sc.names.lookup x=some .cell
 yf:∀y∈sc.names,y.2≠.free
theorem mr{kindOf:Str->Option NameKind}{x:Str}:∀{pb:List (Str×Value)}{m:Str->Option Value},(∀v,(x,v)∉pb)->bindL kindOf pb m x=m x
 | [],_,_=>rfl
 | (n,v)::r,m,h=>by
  unfold bindL;rw[mr λw hw=>h w (cZ _ hw)];split
  ·have:x≠n:=by rintro rfl;exact h v cG
   simp[this]
  ·rfl
theorem mw{kindOf:Str->Option NameKind}{x:Str}:∀{pb:List (Str×Value)}{m:Str->Option Value},(∀v,(x,v)∉pb)->bindC kindOf pb m x=m x
 | [],_,_=>rfl
 | (n,v)::r,m,h=>by
  unfold bindC;rw[mw λw hw=>h w (cZ _ hw)];split
  ·rfl
  ·have:x≠n:=by rintro rfl;exact h v cG
   simp[this]
theorem mx{kindOf:Str->Option NameKind}{x:Str}{v:Value}:∀{P:List Str}{vs:List Value}{i:Nat}{m:Str->Option Value},P.Nodup->P[i]?=some x->vs[i]?=some v->kindOf x=some .local->bindL kindOf (P.zip vs) m x=some v
 | [],_,_,_,_,h,_,_=>by simp at h
 | _::_,[],_,_,_,_,h,_=>by simp at h
 | p::P,w::vs,0,m,nd,h1,h2,hk=>by
  simp at h1 h2;subst h1;subst h2;show bindL kindOf ((p,w)::P.zip vs) m p=_;unfold bindL;rw[mr λv hv=>(wC.mp nd).1 (List.of_mem_zip hv).1,aG hk];simp
 | p::P,w::vs,i+1,m,nd,h1,h2,hk=>by
  show bindL kindOf ((p,w)::P.zip vs) m x=_;unfold bindL;exact mx (i:=i) (wC.mp nd).2 (by simpa using h1) (by simpa using h2) hk
theorem my{kindOf:Str->Option NameKind}{x:Str}{v:Value}:∀{P:List Str}{vs:List Value}{i:Nat}{m:Str->Option Value},P.Nodup->P[i]?=some x->vs[i]?=some v->kindOf x≠some .local->bindC kindOf (P.zip vs) m x=some v
 | [],_,_,_,_,h,_,_=>by simp at h
 | _::_,[],_,_,_,_,h,_=>by simp at h
 | p::P,w::vs,0,m,nd,h1,h2,hk=>by
  simp at h1 h2;subst h1;subst h2;show bindC kindOf ((p,w)::P.zip vs) m p=_;unfold bindC;rw[mw λv hv=>(wC.mp nd).1 (List.of_mem_zip hv).1,aT hk];simp
 | p::P,w::vs,i+1,m,nd,h1,h2,hk=>by
  show bindC kindOf ((p,w)::P.zip vs) m x=_;unfold bindC;exact my (i:=i) (wC.mp nd).2 (by simpa using h1) (by simpa using h2) hk
noncomputable def start(N:List Str)(vs:List V):St:=vs.map some++List.replicate (N.length-vs.length) none
noncomputable def qV(CX:vd)(P:Program)(w:World)(K:PySem.W.Frag)(mg:Str->Option Value)(base:Heap)(N:List Str)(qual:Str)(scope:Scope)(f:Addr)(cd:Value)(A:Around)(outer:List Env)(s:Shared)(H:Hp)(E:XK):Cx where
 prog:=P
 w:=w
 K:=K
 mg:=mg
 base:=base
 A:=A.deeper (envOfC qual scope s.heap.objs.size f cd)
 N:=N
 dI:=s
 H₀:=H
 env:=envOfC qual scope s.heap.objs.size f cd
 outer:=outer
 stack:=envOfC qual scope s.heap.objs.size f cd::outer
 ex:=[]
 calm:=true
 fn:=λ_=>true
 pn:=[]
 xe:=λe s'=>wpAny (model P w) (A.deeper (envOfC qual scope s.heap.objs.size f cd)) (leaving (envOfC qual scope s.heap.objs.size f cd) e) (λ_ Oo=>CX outer H s E e Oo) (λe' Oo=>CX outer H s E e' Oo) s'
theorem pd{sc:Scope}{n:Nat}{x:Str}(h:sc.names.lookup x=some .cell):∃c,(cellsFrom n sc.names []).lookup x=some c:=by
 have q:=PySem.W.cellsFrom_some sc.names n [] (.inl h);exact uD.mp q
theorem vg{CX:vd}{P:Program}{w:World}{K:PySem.W.Frag}{mg:Str->Option Value}{base:Heap}{N ps:List Str}{qual:Str}{scope:Scope}{f:Addr}{cd:Value}{A:Around}{outer:List Env}{s s1:Shared}{H:Hp}{E:XK}{us:List Value}{vs:List V}(S:jY N ps scope)(hd:A.handled=none)(e0:yc P w K mg base A outer s H)(hl:vs.length=ps.length)(r:aE vs us)(x:InCallC s s.heap.objs.size (bindL (envOfC qual scope s.heap.objs.size f cd).kindOf (ps.zip us) λ_=>none) (cellsFrom (s.heap.objs.size+1) scope.names []) (bindC (envOfC qual scope s.heap.objs.size f cd).kindOf (ps.zip us) λ_=>none) s1):Inv (qV CX P w K mg base N qual scope f cd A outer s H E) [] (start N vs) H s1:=by
 have sQ:ps.length<=N.length:=by have:=jP List.length S.pre;rw[fT]at this;omega
 obtain⟨h1,tk,rfl,hk⟩:=x.done;have Oq:∀b:Addr,b∉(qV CX P w K mg base N qual scope f cd A outer s H E).ex:=λb z=>absurd (show b∈([]:List Addr) from z) (by simp)
 refine⟨⟨e0.mod,S.kind,rfl,rfl,a7 _,λy z c h1 h2=>?_,λy hy=>?_,λy c _ h=>?_,λ_=>hd,Around.frames_deeper e0.frames,.inr ⟨rfl,rfl⟩,λb z=>absurd z (Oq b),e0.bs,e0.Br,λb _ _=>Oq b,λb z=>absurd z (Oq b),e0.jR,e0.G_⟩,
  rfl,e0.bare,Un.kept hk,⟨_,x.toInCall.ns,λi y v h1 h2 h3=>?_⟩,λy c h=>⟨_,x.cell y c h⟩,e0.bY.fresh (a7 _),λy c h=>?_,λp hp=>absurd (show p∈([]:List (Addr×Obj)) from hp) (by simp),e0.bY.kept hk,?_⟩
 ·exact name_of_addr x.apart (j9 h1) (j9 h2)
 ·have hy:scope.names.lookup y=some .cell\/scope.names.lookup y=some .free:=hy;rcases hy with hy | hy
  ·exact pd hy
  ·exact absurd rfl (S.yf _ (j9 hy))
 ·exact wK (x.above y c (j9 h))
 ·have hi:i<vs.length:=by
   unfold start at h2;by_cases hi:i<vs.length
   ·exact hi
   ·rw[lT (by simpa using hi)]at h2;rw[List.getElem?_replicate]at h2;split at h2<;>cases h2
  have ha:vs[i]?=some v:=by
   unfold start at h2;rw[fL (by simpa using hi),ff]at h2
   cases e:vs[i]? with
   | none=>rw[e]at h2;cases h2
   | some a=>rw[e]at h2;cases h2;rfl
  obtain⟨u,hu,rv⟩:=r.get ha
  have hp:ps[i]?=some y:=by
   rw[<- S.pre,List.getElem?_take_of_lt ∅];exact h1
  have Wb:ps.Nodup:=by rw[<- S.pre];exact S.nd.sublist (List.take_sublist _ _)
  refine⟨u,rv,?_⟩;rcases S.par y (cT hp)with k | k
  ·exact .inl ⟨k,mx Wb hp hu k⟩
  ·obtain⟨c,e⟩:=pd (n:=s.heap.objs.size+1) k;refine .inr ⟨.inl k,c,e,?_⟩;have q:=x.cell y c e;rw[my Wb hp hu (by show scope.names.lookup y≠_;rw[k];decide)]at q;exact q
 ·exact e0.bY.fresh (wK (x.above y c (j9 h)))
 ·unfold start;show _=N.length;rw[cz,aR,Gy];omega
theorem Ot {CX : vd} {P : Program} {w : World} {K : PySem.W.Frag} {mg : Str -> Option Value} {base : Heap} {k : Nat} {f : Addr} {name qual : Str} {params : Arguments} {body : List Stmt} {scope : Scope} {dV kV doc pm pe ct oc : Value} {an od : Option Addr}
    {pf:Array (Option Value)} {N ps:List Str} {sp:Sp} (lk:K.lookup f=some ⟨oc,od,.func (PySem.W.fnOf name qual params body scope dV kV doc pm an pe ct),pf⟩) (AK:PySem.W.codeIn K pe qual=true) (S:jY N ps scope)
    (len:∀vs H Q E,sp vs H Q E->vs.length=ps.length)
    (Ou:∀(A:Around)(outer:List Env)(s:Shared)(H:Hp)(vs:List V)(Q:VK)(E:XK),gZ k (A.deeper (envOfC qual scope s.heap.objs.size f pe))->sp vs H Q E ->
      ∃t,u4 (qV CX P w K mg base N qual scope f pe A outer s H E) body t/\t {nx:=λ_ H'=>Q .ba H',rt:=Q} (start N vs) H) :
    fR P w K mg base CX (k+1) f (PySem.W.fnOf name qual params body scope dV kV doc pm an pe ct) ps sp:=by
  refine⟨len,λA outer s H args us vs Q E hr e0 hb r Fp=>?_⟩;have hl:=len _ _ _ _ Fp;have KX:K.In s.heap:=e0.mod.Rc.keeps λb o e=>(e0.bs b o e).1;have lim:s.heap.NoLimit:=e0.mod.nolimit.keeps λb o e=>(e0.bs b o e).1
  have yg:∀y∈ps.zip us,scope.names.lookup y.1=some .local\/(scope.names.lookup y.1=some .cell/\((cellsFrom (s.heap.objs.size+1) scope.names []).lookup y.1).isSome=true):=λ⟨n,v⟩ hy=>by
    rcases S.par n (List.of_mem_zip hy).1 with q | q
    · exact .inl q
    · exact .inr ⟨q,PySem.W.cellsFrom_some _ _ _ (.inl q)⟩
  refine codeAny_call_function hr.depth (KX _ _ lk) rfl S.co S.gen rfl (PySem.W.codeRec_of KX AK) (hb _ _ _ _ ?_);refine wpAny_newFunctionEnv_cells S.kind yg λenv he s1 x=>?_;subst he;refine⟨lim.keeps x.toInCall.keep,codeAny_func ?_⟩;obtain⟨t,ht,hq⟩:=Ou A outer s H vs Q E (hr.deeper _) Fp;have I:Inv (qV CX P w K mg base N qual scope f pe A outer s H E) [] (start N vs) H s1:=vg S hr.hd e0 hl r x;refine je (ht [] s1 (start N vs) H _ I hq) (λfl s' hs=>?_) λe s' hs=>hs
  have fin:∀{cE:St}{H':Hp}{v:V}{u:Value},Inv (qV CX P w K mg base N qual scope f pe A outer s H E) [] cE H' s'->RelV v u->Q v H'->CE outer P w H s Q u s' :=
    λ{cE H' v u} J rv q=>⟨v,H',J.os,J.bare,J.base,J.bY,rv,q⟩
  cases fl with
  | ret u =>
    obtain⟨v,cE,H',J,rv,q⟩:=hs;exact fin J rv q
  | next =>
    obtain⟨cE,H',J,q⟩:=hs;exact fin (v:=V.ba) (u:=Value.none) J rfl q
  | brk =>
    obtain⟨_,_,_,q⟩:=hs;exact False.elim q
  | cont =>
    obtain⟨_,_,_,q⟩:=hs;exact False.elim q
section
variable {X:Cx} {x:Str} {p pos:Pos} {e:Expr} {es:List Expr} {t:TA} {id T:String} {r:List V->Hp->VK->Prop}
noncomputable def S9(r:List V->Hp->VK->Prop)(t:TA):TE:=λσ H Q=>t σ H λvs H1=>r vs H1 Q
theorem kx(hc:eM X (.builtin id) r)(hg:Gl X x)(hm:X.mg x=none)(hv:bootBuiltins x=some (.builtin id))(ha:PA X (e::es) t) (hn:x≠ "__name__" := by decide) (Om:(x==("__debug__" : Str))=false:=by decide) (he:starEach (e::es) X.env=(false,eval e X.env)::starEach es X.env:=by rfl) (sQ:(backTo pos (starEach es X.env)).any (·.1)=false:=by rfl):PE X (.Call (.Name x p) (e::es) [] pos) (S9 r t):=by
 intro pins s σ H Q I h;refine Bg (jg I hg hm hv ?_ hn Om);exact PyProof.Rows.callWith_builtin1 (cj (ha pos pins s σ H _ I h) λus s1 ⟨vs,H1,I1,r1,q1⟩=>hc pins s1 σ H1 vs us Q I1 r1 q1) he sQ
theorem gy(hc:eM X (.type T) r)(hg:Gl X x)(hm:X.mg x=none)(hv:bootBuiltins x=some (.type T))(ha:PA X (e::es) t) (hn:x≠ "__name__" := by decide) (Om:(x==("__debug__" : Str))=false:=by decide) (he:starEach (e::es) X.env=(false,eval e X.env)::starEach es X.env:=by rfl) (sQ:(backTo pos (starEach es X.env)).any (·.1)=false:=by rfl):PE X (.Call (.Name x p) (e::es) [] pos) (S9 r t):=by
 intro pins s σ H Q I h;refine Bg (jg I hg hm hv ?_ hn Om);exact AZ (cj (ha pos pins s σ H _ I h) λus s1 ⟨vs,H1,I1,r1,q1⟩=>hc pins s1 σ H1 vs us Q I1 r1 q1) he sQ
end
section
variable {κ:Type} [DecidableEq κ]
noncomputable def jT(ao:List (κ×V))(k:κ):Option V:=(ao.find? λkv=>decide (kv.1=k)).map (·.2)
noncomputable def eL(ao:List (κ×V))(k:κ)(v:V):List (κ×V) :=
 if (ao.any λkv=>decide (kv.1=k))=true then ao.map (λkv=>if kv.1=k then (kv.1,v) else kv) else ao++[(k,v)]
theorem ik{p:κ×V}{r:List (κ×V)}{k:κ}(e:p.1=k):jT (p::r) k=some p.2:=by simp[jT,lV,e]
theorem il{p:κ×V}{r:List (κ×V)}{k:κ}(e:¬p.1=k):jT (p::r) k=jT r k:=by simp[jT,lV,e]
theorem ph(k:κ):∀ao:List (κ×V),(ao.any λkv=>decide (kv.1=k))=(jT ao k).isSome
 | []=>rfl
 | p::r=>by
  rw[wI];by_cases e:p.1=k
  ·simp only[ik e,dE e,Bool.true_or,Option.isSome_some]
  ·rw[il e,c_ e,Bool.false_or];exact ph k r
theorem fZ(ao:List (κ×V))(k:κ)(v:V):(eL ao k v).length<=ao.length+1:=by
 unfold eL;split
 ·rw[aR];omega
 ·rw[cz,eJ,List.length_nil];omega
theorem ki.vh{o:Option V}{u:Option Value}(r:ki o u):o.isSome=u.isSome:=by
 cases o with
 | none=>cases u with
  | none=>rfl
  | some _=>exact(show False from r).elim
 | some _=>cases u with
  | none=>exact(show False from r).elim
  | some _=>rfl
theorem KV.val{ao:List (κ×V)}{vs:List (κ×Value)}(r:KV ao vs)(k:κ):ki (jT ao k) (valueAt vs k):=by
 unfold KV at r
 induction r with
 | nil=>exact True.intro
 | @cons p q ps qs h t ih =>
  obtain⟨h1,h2⟩:=h;by_cases e:p.1=k
  ·have e':q.1=k:=h1.symm.trans e;have b:valueAt (q::qs) k=some q.2:=by simp[valueAt,lV,e']
   rw[ik e,b];exact h2
  ·have e':¬q.1=k:=λz=>e (h1.trans z);have b:valueAt (q::qs) k=valueAt qs k:=by simp[valueAt,lV,e']
   rw[il e,b];exact ih
theorem KV.any{ao:List (κ×V)}{vs:List (κ×Value)}(r:KV ao vs)(k:κ):(ao.any λkv=>decide (kv.1=k))=vs.any λkv=>decide (kv.1=k):=by
 unfold KV at r
 induction r with
 | nil=>rfl
 | cons h t ih=>rw[wI,wI,ih,h.1]
theorem KV.HE{ao:List (κ×V)}{vs:List (κ×Value)}(r:KV ao vs)(k:κ){y:V}{u:Value}(ry:RelV y u):KV (ao.map λkv=>if kv.1=k then (kv.1,y) else kv) (vs.map λkv=>if kv.1=k then (kv.1,u) else kv):=by
 unfold KV at r⊢
 induction r with
 | nil=>exact .nil
 | @cons p q ps qs h t ih =>
  rw[d_,d_];refine .cons ?_ ih;obtain⟨h1,h2⟩:=h;by_cases e:p.1=k
  ·rw[aG e,aG (h1.symm.trans e)];exact⟨h1,ry⟩
  ·rw[aT e,aT (λz=>e (h1.trans z))];exact⟨h1,h2⟩
theorem KV.put{ao:List (κ×V)}{vs:List (κ×Value)}(r:KV ao vs)(k:κ){y:V}{u:Value}(ry:RelV y u):KV (eL ao k y) (stored vs k u):=by
 unfold eL stored;rw[r.any k];by_cases e:(vs.any λkv=>decide (kv.1=k))=true
 ·rw[aG e,aG e];exact r.HE k ry
 ·rw[aT e,aT e];exact Paired.snoc r ⟨rfl,ry⟩
theorem KV.length{ao:List (κ×V)}{vs:List (κ×Value)}(r:KV ao vs):ao.length=vs.length:=Paired.length r
end
theorem pj{P:Program}{w:World}{k:bZ}{u:Value}(r:RelV (kV k) u):(bG P w).is k u=true:=by
 cases k with
 | inl i=>obtain⟨t,e⟩:=(show ∃t,u=Value.int i t from r);subst e;exact oU P w i t
 | inr x=>obtain⟨t,e⟩:=(show ∃t,u=Value.str x t from r);subst e;exact fV P w x t
theorem mz{P:Program}{w:World}:∀{ks:List bZ}{us:List Value},aE (ks.map kV) us->ItemsAre (bG P w) ks us
 | [],_,r=>by rw[m_]at r;cases r;exact .nil
 | k::ks,_,r=>by
  rw[d_]at r
  cases r with
  | cons h t=>exact .cons (pj h) (mz t)
abbrev KT(H:Hp):List (List bZ×V)->List (List bZ×Addr×Value)->Prop:=Paired λp q=>p.1=q.1/\H q.2.1=some (.tup (p.1.map kV))/\RelV p.2 q.2.2
theorem KT.val{H:Hp}{ao:List (List bZ×V)}{xs:List (List bZ×Addr×Value)}(r:KT H ao xs)(k:List bZ):ki (jT ao k) ((atKey xs k).map (·.2)):=by
 induction r with
 | nil=>exact True.intro
 | @cons p q ps qs h t ih =>
  obtain⟨h1,_,h2⟩:=h;by_cases e:p.1=k
  ·have e':q.1=k:=h1.symm.trans e;have b:atKey (q::qs) k=some q.2:=by simp[atKey,lV,e']
   rw[ik e,b];exact h2
  ·have e':¬q.1=k:=λz=>e (h1.trans z);have b:atKey (q::qs) k=atKey qs k:=by simp[atKey,lV,e']
   rw[il e,b];exact ih
theorem KT.HE{H:Hp}{ao:List (List bZ×V)}{xs:List (List bZ×Addr×Value)}(r:KT H ao xs)(k:List bZ){y:V}{u:Value}(ry:RelV y u):KT H (ao.map λkv=>if kv.1=k then (kv.1,y) else kv) (xs.map (putAt k u)):=by
 induction r with
 | nil=>exact .nil
 | @cons p q ps qs h t ih =>
  rw[d_,d_];refine .cons ?_ ih;obtain⟨h1,h2,h3⟩:=h;unfold putAt;by_cases e:p.1=k
  ·rw[aG e,aG (h1.symm.trans e)];exact⟨h1,h2,ry⟩
  ·rw[aT e,aT (λz=>e (h1.trans z))];exact⟨h1,h2,h3⟩
theorem KT.put{H:Hp}{ao:List (List bZ×V)}{xs:List (List bZ×Addr×Value)}(r:KT H ao xs)(k:List bZ){b:Addr}{y:V}{u:Value}(hb:H b=some (.tup (k.map kV)))(ry:RelV y u):KT H (eL ao k y) (storedH xs k b u):=by
 have e:(ao.any λkv=>decide (kv.1=k))=(atKey xs k).isSome:=by
  rw[ph,(r.val k).vh,Option.isSome_map]
 unfold eL storedH;rw[e];by_cases q:(atKey xs k).isSome=true
 ·rw[aG q,aG q];exact r.HE k ry
 ·rw[aT q,aT q];exact Paired.snoc r ⟨rfl,hb,ry⟩
theorem KT.keeps{H H':Hp}{ao:List (List bZ×V)}{xs:List (List bZ×Addr×Value)}(r:KT H ao xs)(ht:∀b ys,H b=some (.tup ys)->H' b=some (.tup ys)):KT H' ao xs :=
 Paired.NM r λ_ _ z=>⟨z.1,ht _ _ z.2.1,z.2.2⟩
section
variable {P:Program} {w:World} {H:Hp} {h:Heap} {a:Addr}
theorem yh{u:HO}(ok:gO P w H h)(e:Rd H a u):bX P w H h a u:=e.ok ok
theorem yj{ao:List (bZ×V)}(ok:gO P w H h)(e:Rd H a (.dK ao)):ao.length<=sizeLine/\(a==sysModules)=false/\∃vs,KV ao vs/\h.DictOf (bG P w) a vs :=
 show bX P w H h a (.dK ao) from yh ok e
theorem Fq{ao:List (bZ×V)}(ok:gO P w H h)(e:H a=some (.dK ao)):ao.length<=sizeLine/\(a==sysModules)=false/\∃vs,KV ao vs/\h.DictOf (bG P w) a vs:=yj ok (.inl e)
theorem qW{ks:List bZ}(ok:gO P w H h)(e:H a=some (.tup (ks.map kV))):(tupleKind (bG P w)).is h ks a:=by
 obtain⟨_,ar,r,o,h1,h2,n,h3⟩:=(show bX P w H h a (.tup (ks.map kV)) from ok a _ e);exact⟨o,ar.toArray,n,h1,h2,h3,by simpa using mz r⟩
theorem ym{ao:List (List bZ×V)}(ok:gO P w H h)(e:Rd H a (.dT ao)):ao.length<=sizeLine/\(a==sysModules)=false/\∃xs,KT H ao xs/\h.DictOfH (tupleKind (bG P w)) a xs:=by
 obtain⟨z,y,xs,r,o,es,ep,h1,h2,h3,h4,h5⟩:=(show bX P w H h a (.dT ao) from yh ok e);refine⟨z,y,xs,r,o,es,ep,h1,h2,h3,h4,λx hx=>?_,h5⟩
 have all:∀{l:List (List bZ×V)}{m:List (List bZ×Addr×Value)},KT H l m->∀x∈m,(tupleKind (bG P w)).is h x.1 x.2.1:=by
  intro l m q
  induction q with
  | nil=>intro x hx;exact nomatch hx
  | @cons p q ps qs hq t ih =>
   intro x hx;rcases bw.mp hx with e | hx
   ·subst e;exact qW ok (by rw[<- hq.1];exact hq.2.1)
   ·exact ih x hx
 exact all r x hx
theorem Ov{ao:List (List bZ×V)}(ok:gO P w H h)(e:H a=some (.dT ao)):ao.length<=sizeLine/\(a==sysModules)=false/\∃xs,KT H ao xs/\h.DictOfH (tupleKind (bG P w)) a xs:=ym ok (.inl e)
end
def nE(H:Hp)(a:Addr)(y:V)(r:Option V):Prop :=
 (∃ao k,Rd H a (.dK ao)/\y=kV k/\r=jT ao k)\/∃ao k b,Rd H a (.dT ao)/\y=.ref b/\H b=some (.tup (k.map kV))/\r=jT ao k
def vj(H:Hp)(a:Addr)(y v:V)(H':Hp):Prop :=
 (∃ao k,H a=some (.dK ao)/\y=kV k/\ao.length<sizeLine/\H'=bH H a (.dK (eL ao k v))) \/
 ∃ao k b,H a=some (.dT ao)/\y=.ref b/\H b=some (.tup (k.map kV))/\ao.length<sizeLine/\H'=bH H a (.dT (eL ao k v))
theorem nE.k{H:Hp}{a:Addr}{ao:List (bZ×V)}{k:bZ}(e:H a=some (.dK ao)):nE H a (kV k) (jT ao k):=.inl ⟨ao,k,.inl e,rfl,rfl⟩
theorem vj.k{H:Hp}{a:Addr}{ao:List (bZ×V)}{k:bZ}{v:V}(e:H a=some (.dK ao))(hl:ao.length<sizeLine):vj H a (kV k) v (bH H a (.dK (eL ao k v))):=.inl ⟨ao,k,e,rfl,hl,rfl⟩
theorem vj.t{H:Hp}{a b:Addr}{ao:List (List bZ×V)}{k:List bZ}{v:V}(e:H a=some (.dT ao))(eb:H b=some (.tup (k.map kV)))(hl:ao.length<sizeLine):vj H a (.ref b) v (bH H a (.dT (eL ao k v))):=.inr ⟨ao,k,b,e,rfl,eb,hl,rfl⟩
section
variable {X:Cx} {pins:List (Addr×Obj)} {σ:St} {H:Hp} {s:Shared} {a:Addr} {y v:V} {u r:Value} {o:Option V} {A:Around} {E:Value->Shared->Prop}
theorem Inv.big(I:Inv X pins σ H s):sysModules<s.heap.objs.size:=by
 have h:mainGlobals<s.heap.objs.size:=(I.mod.glob.keeps I.bk).lt;exact kg (by decide) h
theorem jm{Q:Value->Shared->Prop}(hu:A.units+1<cLine)(I:Inv X pins σ H s)(g:nE H a y (some v))(ry:RelV y u)(h:∀w' s',Inv X pins σ H s'->RelV v w'->Q w' s'):wpAny (model X.prog X.w) A (getItem (.ref a) u) Q E s:=by
 rcases g with⟨ao,k,e,ey,l⟩|⟨ao,k,b,e,ey,eb,l⟩
 ·subst ey;obtain⟨z,hd,vs,qX,dd⟩:=yj I.bY e;obtain⟨w',hw,qY⟩:=ki.sP (v:=v) (o:=valueAt vs k) (by rw[l];exact qX.val k);exact wpAny_getItem_of (pj ry) dd.mapOf hw (h w' _ (I.tok _) qY)
 ·subst ey;cases (show u=Value.ref b from ry);obtain⟨z,hd,xs,qX,dd⟩:=ym I.bY e;obtain⟨w',hw,qY⟩:=ki.sP (v:=v) (o:=(atKey xs k).map (·.2)) (by rw[l];exact qX.val k);obtain⟨p,hp,XZ⟩:=Gw.mp hw;refine wpAny_getItem_heap (tupleKind_room_in1 hu) (qW I.bY eb) dd hp ?_;rw[XZ];exact h w' _ (I.tok _) qY
theorem nF{h':Heap}{t':Nat}{ob:HO}(I:Inv X pins σ H s)(mu:NP (H a))(hs:Heap.SameBut a s.heap h')(he:∃q,h'.get? a=some q)(new:bX X.prog X.w (bH H a ob) h' a ob):Inv X pins σ (bH H a ob) {s with heap:=h',toks:=t'} :=
 I.write (x:=a) (e:=a) mu (.inl rfl) (λb q hb z=>(hs.2 b hb).trans z) he new
theorem yn{P:Program}{w:World}{H':Hp}{h':Heap}{ao:List (bZ×V)}{vs:List (bZ×Value)}(z:ao.length<=sizeLine)(hd:(a==sysModules)=false)(qX:KV ao vs)(dd:h'.DictOf (bG P w) a vs):bX P w H' h' a (.dK ao):=⟨z,hd,vs,qX,dd⟩
theorem vk{H':Hp}{Q:Unit->Shared->Prop}(hu:A.units+1<cLine)(I:Inv X pins σ H s)(g:vj H a y v H')(ry:RelV y u)(rv:RelV v r)(h:∀s',Inv X pins σ H' s'->Q () s'):wpAny (model X.prog X.w) A (setItem (.ref a) u r) Q E s:=by
 rcases g with⟨ao,k,e,ey,l,eH⟩|⟨ao,k,b,e,ey,eb,l,eH⟩
 ·subst ey eH;obtain⟨z,hd,vs,qX,dd⟩:=Fq I.bY e;have hz:vs.length<=sizeLine:=by rw[<- qX.length];exact z
  have hl:(eL ao k v).length<=sizeLine:=by have:=fZ ao k v;omega
  refine wpAny_setItem_pairs (hsz:=hz) (pj ry) dd λh' HF hs=>h _ ?_;have he:∃q,h'.get? a=some q:=let ⟨q,_,_,hq,_⟩:=HF;⟨q,hq⟩
  exact nF I (by rw[e];exact True.intro) hs he (yn hl hd (qX.put k rv) HF)
 ·subst ey eH;cases (show u=Value.ref b from ry);obtain⟨z,hd,xs,qX,dd⟩:=Ov I.bY e;have hz:xs.length<=sizeLine:=by rw[<- Paired.length qX];exact z
  have hl:(eL ao k v).length<=sizeLine:=by have:=fZ ao k v;omega
  refine wpAny_setItem_heap (hsz:=hz) (tupleKind_room_in1 hu) (qW I.bY eb) dd λh' HF hs=>h _ ?_;obtain⟨q,es,ep,hq,h2,h3,h4,_,h5⟩:=HF;refine nF I (by rw[e];exact True.intro) hs ⟨q,hq⟩ ⟨hl,hd,_,(qX.put k eb rv).keeps λc ys ec=>?_,q,es,ep,hq,h2,h3,h4,h5⟩;rw[ax (NL ec e (λz=>nomatch z))];exact ec
end
def Ow(i:Expr):Prop:=∀ov iv,subscripted i false ov iv=operate [ov,iv] (getItem ov iv)
theorem BF{prog:Program}{w:World}{A:Around}{E:Value->Shared->Prop}{s:Shared}{env:Env}{value eh:Expr}{pos:Pos}{T id:String}{Q:Value->Shared->Prop} (hl:typeLookup (.type T) "__getitem__" = pure (some (.builtin id))) (hs:Ow eh) (h:wpAny (model prog w) A (eval value env) (λo bI=>wpAny (model prog w) A (eval eh env) (λi nB=>nB.TypeIs o T/\wpAny (model prog w) A (getItem o i) Q E nB) E bI) E s):wpAny (model prog w) A (eval (.Subscript value eh pos) env) Q E s:=by
 refine Subscript_ (je h (λo bI vm=>je vm (λi nB yp=>?_) λ_ _ x=>x) λ_ _ x=>x);obtain⟨hT,yp⟩:=yp;unfold subscriptTail;refine ai ?_;rw[getitemInPython_of_ne hT.not_modules];refine ai (wpAny_specialOf hT hl ?_)
 have fin:wpAny (model prog w) A (subscripted eh false o i) (λr pk=>wpAny (model prog w) A (letTemporaryGo value o r >>= λ_=>pure r) Q E pk) E nB:=by
  rw[hs o i];exact wpAny_operating (je yp (λr pk BG=>ai (wpAny_letTemporaryGo (bg BG))) λ_ _ x=>x)
 first
  | exact bg (ai fin)
  | exact ai (bg (ai fin))
  | exact ai fin
theorem f_{X:Cx}{pins:List (Addr×Obj)}{σ:St}{H:Hp}{s:Shared}{a:Addr}{y:V}{o:Option V}(I:Inv X pins σ H s)(g:nE H a y o):s.TypeIs (.ref a) "dict" := by
 rcases g with⟨ao,k,e,_,_⟩|⟨ao,k,b,e,_,_,_⟩
 ·obtain⟨_,_,vs,_,dd⟩:=yj I.bY e;exact dd.typeIs
 ·obtain⟨_,_,xs,_,dd⟩:=ym I.bY e;exact dd.typeIs
theorem pq{P:Program}{w:World}{H:Hp}(h:Heap)(hb:sysModules<h.objs.size):bX P w H (h.push {cls:=.type "dict",data:=.dict #[]}) h.objs.size (.dK []) :=
 ⟨lX _,m7.mpr (ig (fg hb)),[],.nil,Heap.DictOf.new h⟩
def HG:TE:=λ_ H Q=>∀p,H p=none->Q (.ref p) (bH H p (.dK []))
section
variable {X:Cx} {pos:Pos}
theorem yq:PE X (.Dict [] [] pos) HG:=λpins s σ H Q I h =>
 wpAny_Dict_empty ⟨.ref s.heap.objs.size,_,I.laid (a:=s.heap.objs.size) (o:=.dK []) (t':=s.toks) (λ_ _ q=>bQ _ q) (a7 _) (pq s.heap I.big),rfl,h _ (I.bY.fresh (a7 _))⟩
end
noncomputable def fC:List (TE×TE)->St->Hp->(List (V×V)->Hp->Prop)->Prop
 | [],_,H,Q=>Q [] H
 | (tk,tv)::r,σ,H,Q=>tk σ H λx H1=>tv σ H1 λy H2=>fC r σ H2 λps H3=>Q ((x,y)::ps) H3
abbrev VV:List (V×V)->List (Value×Value)->Prop:=Paired λp q=>RelV p.1 q.1/\RelV p.2 q.2
def Lg(X:Cx)(pos:Pos)(keys:List (Option Expr))(kz:List Expr)(kA:List (TE×TE)):Prop :=
 ∀(pins:List (Addr×Obj))(s:Shared)(σ:St)(H:Hp)(Q:List (V×V)->Hp->Prop),Inv X pins σ H s->fC kA σ H Q ->
  wpAny (model X.prog X.w) X.A (evalPairs (pairTrees keys kz X.env pos)) (λvs s'=>∃ps H',Inv X pins σ H' s'/\VV ps vs/\Q ps H') X.xe s
theorem BH{X:Cx}{pos:Pos}:Lg X pos [] [] []:=λpins s σ H Q I h=>pairTrees_nil_walk ⟨[],H,I,.nil,h⟩
theorem yr{X:Cx}{pos:Pos}{k v:Expr}{ks:List (Option Expr)}{vs:List Expr}{tk tv:TE}{kA:List (TE×TE)}(hk:PE X k tk)(hv:PE X v tv)(hr:Lg X pos ks vs kA):Lg X pos (some k::ks) (v::vs) ((tk,tv)::kA):=λpins s σ H Q I h =>
 pairTrees_cons_walk (cj (hk pins s σ H _ I h) λu s1 ⟨x,H1,I1,rx,q1⟩=>cj (hv pins s1 σ H1 _ I1 q1) λw2 s2 ⟨y,H2,I2,ry,q2⟩ =>
  cj (hr pins s2 σ H2 _ I2 q2) λws s3 ⟨ps,H3,I3,qX,q3⟩=>⟨(x,y)::ps,H3,I3,.cons ⟨rx,ry⟩ qX,q3⟩)
def eV(ao jQ:List (bZ×V)):List (bZ×V):=jQ.foldl (λaA kv=>eL aA kv.1 kv.2) ao
theorem KV.merge:∀{jQ:List (bZ×V)}{rs:List (bZ×Value)}{ao:List (bZ×V)}{vs:List (bZ×Value)},KV jQ rs->KV ao vs->KV (eV ao jQ) (merged vs rs):=by
 intro jQ rs ao vs r;unfold KV at r
 induction r generalizing ao vs with
 | nil=>intro q;exact q
 | @cons p q ps qs h t ih =>
  intro r0
  have e:KV (eL ao p.1 p.2) (stored vs q.1 q.2):=by
   have:=r0.put p.1 h.2;rw[<- h.1];exact this
  exact ih e
theorem gP:∀(jQ ao:List (bZ×V)),(eV ao jQ).length<=ao.length+jQ.length
 | [],ao=>by show ao.length<=ao.length+0;omega
 | p::r,ao=>by
  have h1:=gP r (eL ao p.1 p.2);have h2:=fZ ao p.1 p.2;show(eV (eL ao p.1 p.2) r).length<=_;rw[eJ];omega
theorem kC{P:Program}{w:World}:∀{ao:List (bZ×V)}{ws:List (Value×Value)},VV (ao.map λkv=>(kV kv.1,kv.2)) ws->∃rs,Carries (bG P w) ws rs/\KV ao rs
 | [],_,r=>by rw[m_]at r;cases r;exact⟨[],True.intro,.nil⟩
 | p::ao,_,r=>by
  rw[d_]at r
  cases r with
  | @cons a b as bs h t =>
   obtain⟨rs,c,q⟩:=kC (P:=P) (w:=w) t;obtain⟨b1,b2⟩:=b;exact⟨(p.1,b2)::rs,⟨pj h.1,rfl,c⟩,.cons ⟨rfl,h.2⟩ q⟩
def Ox(kA:List (TE×TE)):TE:=λσ H Q=>∀p,H p=none->fC kA σ (bH H p (.dK [])) λps H2=>H2 p=some (.dK [])/\∃ao:List (bZ×V),ps=ao.map (λkv=>(kV kv.1,kv.2))/\ao.length<=15/\Q (.ref p) (bH H2 p (.dK (eV [] ao)))
theorem BI{X:Cx}{pos:Pos}{keys:List (Option Expr)}{kz:List Expr}{kA:List (TE×TE)}(h:Lg X pos keys kz kA)(HH:keys.all (·.isSome)=true)(hl:keys.length=kz.length)(h0:keys≠[])(Oy:keys.length<=15):PE X (.Dict keys kz pos) (Ox kA):=by
 intro pins s σ H Q I q;have hn:=I.bY.fresh (a7 s.heap.objs.size);have I1:=I.laid (a:=s.heap.objs.size) (o:=.dK []) (h':=s.heap.push {cls:=.type "dict",data:=.dict #[]}) (t':=s.toks) (λ_ _ q=>bQ _ q) (a7 _) (pq s.heap I.big);refine wpAny_Dict_walk (knd:=bG X.prog X.w) HH hl h0 Oy (cj (h pins _ σ _ _ I1 (q _ hn)) ?_);rintro ws s2 ⟨ps,H2,I2,qX,e,ao,rfl,lk,q2⟩;obtain⟨rs,c,rk⟩:=kC (P:=X.prog) (w:=X.w) qX;obtain⟨z,hd,vs0,r0,dd⟩:=Fq I2.bY e;cases r0;refine⟨rs,c,dd,λh' HF hs=>⟨.ref s.heap.objs.size,_,?_,rfl,q2⟩⟩
 have hz:(eV [] ao).length<=sizeLine:=by
  have h1:=gP ao [];rw[List.length_nil]at h1;rw[sizeLine_eq];omega
 have he:∃q,h'.get? s.heap.objs.size=some q:=let ⟨q,_,_,hq,_⟩:=HF;⟨q,hq⟩
 exact nF I2 (by rw[e];exact True.intro) hs he (yn hz hd (rk.merge .nil) HF)
end L2
namespace HT
open PySem PyProof.Rows
section
open PySem.SeqAt
open PySem.AutoSeq1 (wpAny_loadPart')
open PySem.MeetsSeq PySem.MeetsSeq2 PySem.MeetsSeq3
end
section
variable {prog:Program} {w:World} {A:Around} {E:Value->Shared->Prop} {s:Shared}
theorem BJ{t b:Addr}{vs ws:List Value}{Q:Value->Shared->Prop}(ht:IsTup s.heap t vs.toArray)(hb:IsTup s.heap b ws.toArray)(hv:vs≠[])(h1:ws=[]->Q (.ref t) s) (h2:ws≠[]->Q (.ref s.heap.objs.size) {s with heap:=s.heap.push {cls:=.type "tuple",data:=.seq (vs++ws).toArray}}) (hsz:vs.length+ws.length<=sizeLine):wpAny (model prog w) A (binaryOp .Add (.ref t) (.ref b)) Q E s:=by
 obtain⟨⟨cls,dd,data,sl⟩,ho,hc,n,hd⟩:=id ht;obtain⟨⟨S_,Rm,data2,Rn⟩,HI,AM,n2,Oz⟩:=id hb;simp only at hc hd AM Oz;subst hc hd AM Oz;have e:vs.toArray++ws.toArray=(vs++ws).toArray:=by simp
 by_cases hw:ws=[]
 ·exact concat_meets ⟨_,ho,rfl⟩ ⟨_,HI,rfl⟩ noFill_tuple_add seq_tuple_add Gx Gs (Gr _ _)
   (tuple_addW1 t b vs.toArray ws.toArray n n2 dd Rm sl Rn (by simpa using hv) (by simp[hw])) ⟨ho,HI,h1 hw⟩
 ·refine concat_meets ⟨_,ho,rfl⟩ ⟨_,HI,rfl⟩ noFill_tuple_add seq_tuple_add Gx Gs (Gr _ _)
   (tuple_addW2 t b vs.toArray ws.toArray n n2 dd Rm sl Rn (by simpa using hv) (by simpa using hw) (by rw[cB,cB];exact hsz)) ⟨ho,HI,?_⟩
  rw[e];exact h2 hw
noncomputable def cF(n d:Nat):Option Int->Nat
 | none=>d
 | some v=>if v<0 then (v+(n:Int)).toNat else min v.toNat n
theorem yt(n d:Nat):cF n d none=d:=rfl
theorem BK(n d k:Nat):cF n d (some (k:Int))=min k n:=by
 show(if (k:Int)<0 then ((k:Int)+(n:Int)).toNat else min (k:Int).toNat n)=min k n;rw[aT ∅,Bh]
theorem HJ(n d:Nat)(hd:d<=n)(o:Option Int):cF n d o<=n:=by
 cases o with
 | none=>exact hd
 | some v =>
  show(if v<0 then (v+(n:Int)).toNat else min v.toNat n)<=n;by_cases hv:v<0
  ·rw[aG hv];omega
  ·rw[aT hv];exact Nat.min_le_right _ _
theorem sR(v:Int)(n d:Nat):(if v<0 then max (v+(n:Int)) 0 else min v (n:Int))=((cF n d (some v):Nat):Int):=by
 show(if v<0 then max (v+(n:Int)) 0 else min v (n:Int))=(((if v<0 then (v+(n:Int)).toNat else min v.toNat n):Nat):Int);by_cases hv:v<0
 ·simp only[aG hv];omega
 ·simp only[aT hv];omega
theorem qZ(lo hi:Option Int)(n:Nat):Builtin.Slice.sliceAdjust lo hi 1 (n:Int)=(((cF n 0 lo:Nat):Int),((cF n n hi:Nat):Int)):=by
 have h1:¬((1:Int)<0):=∅;unfold Builtin.Slice.sliceAdjust;simp only[h1,if_false];refine Prod.ext ?_ ?_
 ·cases lo with
  | none=>rfl
  | some v=>exact sR v n 0
 ·cases hi with
  | none=>rfl
  | some v=>exact sR v n n
theorem q_(i j:Nat):Builtin.Slice.slicePlaces (i:Int) (j:Int) 1=j-i:=by
 unfold Builtin.Slice.slicePlaces;have h1:(1:Int)>0:=∅;simp only[h1,fO,Int.ediv_one];split<;>omega
theorem kE{v:Value}{o:Option Int}{Q:Option Int->Shared->Prop}(p:IsPart v o)(h:Q o s):wpAny (model prog w) A (Builtin.Slice.slicePartIndex v) Q E s:=by
 cases p with
 | none=>exact slicePart_none h
 | int i t=>exact slicePart_int h
theorem fi{sl:Addr}{vl vu:Value}{lo hi:Option Int}{n:Nat}{Q:Int×Int×Nat->Shared->Prop}(hs:s.heap.IsSliceOf sl vl vu .none)(pl:IsPart vl lo)(pu:IsPart vu hi)(h:Q (((cF n 0 lo:Nat):Int),1,cF n n hi-cF n 0 lo) s):wpAny (model prog w) A (Builtin.Slice.sliceApplied (.ref sl) (pure (n:Int))) Q E s:=by
 obtain⟨os,HK,BL,OA⟩:=id hs;unfold Builtin.Slice.sliceApplied Builtin.Slice.sliceFields;refine ai (ai (gH HK OA (x:=vl) rfl (ai (gH HK OA (x:=vu) rfl (ai (gH HK OA (x:=.none) rfl (bg ?_)))))));refine ai (slicePart_none ?_);show wpAny _ _ (if ((1:Int)==0)=true then _ else _) _ _ s;rw[aT (by decide)];refine ai (kE pl (ai (kE pu (ai (bg ?_)))));show wpAny _ _ (match Builtin.Slice.sliceAdjust lo hi 1 (n:Int)with | (lo,hi)=>pure (lo,(1:Int),Builtin.Slice.slicePlaces lo hi 1)) _ _ s;rw[qZ lo hi n];show wpAny _ _ (pure (((cF n 0 lo:Nat):Int),(1:Int),Builtin.Slice.slicePlaces ((cF n 0 lo:Nat):Int) ((cF n n hi:Nat):Int) 1)) _ _ s;rw[q_];exact bg h
theorem yu(xs:Array Value)(i k:Nat):((List.range k).filterMap λ(m:Nat)=>xs[((i:Int)+(m:Int)*1).toNat]?).toArray=((xs.toList.drop i).take k).toArray:=by
 have e:(λ(m:Nat)=>xs[((i:Int)+(m:Int)*1).toNat]?)=λm=>xs[i+m]?:=by
  funext m;have:((i:Int)+(m:Int)*1).toNat=i+m:=∅;rw[this]
 rw[e];have:=pick_run xs i k;rw[List.filterMap_map]at this;have e2:((λx=>xs[x]?)∘λx=>i+x)=λm=>xs[i+m]?:=rfl;rw[e2]at this;rw[this]
theorem ip{t sl:Addr}{items:Array Value}{vl vu:Value}{lo hi:Option Int}{Q:Value->Shared->Prop}(ht:IsTup s.heap t items)(hs:s.heap.IsSliceOf sl vl vu .none)(pl:IsPart vl lo)(pu:IsPart vu hi)(hw:¬(cF items.size 0 lo=0/\cF items.size items.size hi=items.size)) (h:Q (.ref s.heap.objs.size) {s with heap:=s.heap.push {cls:=.type "tuple",data:=.seq ((items.toList.drop (cF items.size 0 lo)).take (cF items.size items.size hi-cF items.size 0 lo)).toArray}}) (hsz:items.size<=sizeLine):wpAny (model prog w) A (getItem (.ref t) (.ref sl)) Q E s:=by
 have sS:sizeOk (.seq ((items.toList.drop (cF items.size 0 lo)).take (cF items.size items.size hi-cF items.size 0 lo)).toArray):=by
  show((items.toList.drop (cF items.size 0 lo)).take (cF items.size items.size hi-cF items.size 0 lo)).toArray.size<=sizeLine;rw[cB,fT,List.length_drop,uH];omega
 have hj:cF items.size items.size hi<=items.size:=HJ _ _ (a7 _) hi;obtain⟨os,HK,BL,OA⟩:=id hs;have Ta:s.TypeIs (.ref sl) "slice" := ⟨os,HK,BL⟩;unfold getItem
 try with_reducible refine m9 ?_
 first | refine ai (bg ?_) | skip
 refine ai (wpAny_sequenceKey ht.typeIs (by decide) ?_)
 refine ai (uE (name:=Str.ofString "__getitem__") ht.typeIs uB
  (qM uB ht.typeIs entry_tuple_getitem ?_ (args_tuple_getitem _ _)))
 show wpAny _ _ (Builtin.Tuple.tupleItemsOf (.ref t) >>= _) _ _ s;refine ai (tupleItemsOf_ ht ?_);refine ai (wpAny_typeOf Ta ?_);rw[aG (by decide)];refine ai (fi hs pl pu ?_)
 have X2:¬((((cF items.size 0 lo:Nat):Int)==0&&(1:Int)==1&&(cF items.size items.size hi-cF items.size 0 lo)==items.size)=true):=by
  intro q;rw[aF,aF]at q;have q1:((cF items.size 0 lo:Nat):Int)=0:=eq_of_beq q.1.1;have q2:cF items.size items.size hi-cF items.size 0 lo=items.size:=eq_of_beq q.2;exact hw ⟨∅,∅⟩
 show wpAny _ _ (if (((cF items.size 0 lo:Nat):Int)==0&&(1:Int)==1&&(cF items.size items.size hi-cF items.size 0 lo)==items.size)=true then _ else _) _ _ s;rw[aT X2,yu]
 first
  | exact ai (m:=Builtin.Tuple.tupleExact _) (qK (bg ⟨_,rfl,bg h⟩) sS)
  | exact ai (m:=Builtin.Tuple.tupleExact _) (qK (ai (bg (bg ⟨_,rfl,bg h⟩))) sS)
  | exact ai (ai (m:=Builtin.Tuple.tupleExact _) (qK (bg (bg ⟨_,rfl,bg h⟩)) sS))
  | exact ai (ai (m:=Builtin.Tuple.tupleExact _) (qK (bg ⟨_,rfl,bg h⟩) sS))
end
end HT
namespace L2
open PySem PySem.Spec PyProof.Rows
abbrev TO:=St->Hp->(Option Int->Hp->Prop)->Prop
noncomputable def PO(X:Cx)(e:Option Expr)(t:TO):Prop :=
 ∀(pins:List (Addr×Obj))(s:Shared)(σ:St)(H:Hp)(Q:Option Int->Hp->Prop),Inv X pins σ H s->t σ H Q ->
  wpAny (model X.prog X.w) X.A (evalPart e X.env) (λu s'=>∃o H',Inv X pins σ H' s'/\IsPart u o/\Q o H') X.xe s
def BM:TO:=λ_ H Q=>Q none H
noncomputable def OB(t:TE):TO:=λσ H Q=>t σ H λx H1=>∃i,x=.int i/\Q (some i) H1
section
variable {X:Cx} {e:Expr} {te:TE} {lo hi:Option Expr} {tl th:TO} {pos p2:Pos}
theorem BN:PO X none BM:=by
 intro pins s σ H Q I h;rw[evalPart_none];exact bg ⟨none,H,I,.none,h⟩
theorem BO(h:PE X e te):PO X (some e) (OB te):=by
 intro pins s σ H Q I hw;rw[evalPart_some];refine cj (h pins s σ H _ I hw) ?_;rintro u s1 ⟨x,H1,I1,r1,q1⟩;obtain⟨i,rfl,q⟩:=q1;obtain⟨t,rfl⟩:=r1;exact⟨some i,H1,I1,.int i t,q⟩
def OC(X:Cx)(r:V->Option Int->Option Int->Hp->VK->Prop):Prop :=
 ∀(pins:List (Addr×Obj))(s:Shared)(σ:St)(H:Hp)(x:V)(v vl vu:Value)(lo hi:Option Int)(sl:Addr)(Q:VK),Inv X pins σ H s->RelV x v->s.heap.IsSliceOf sl vl vu .none->IsPart vl lo->IsPart vu hi->r x lo hi H Q ->
  ∃T id,typeLookup (.type T) "__getitem__" = pure (some (.builtin id))/\s.TypeIs v T/\wpAny (model X.prog X.w) X.A (getItem v (.ref sl)) (EP X pins σ Q) X.xe s
noncomputable def X3(r:V->Option Int->Option Int->Hp->VK->Prop)(te:TE)(tl th:TO):TE:=λσ H Q=>te σ H λx H1=>tl σ H1 λl H2=>th σ H2 λu H3=>r x l u H3 Q
theorem yv{r:V->Option Int->Option Int->Hp->VK->Prop}(hr:OC X r)(he:PE X e te)(hl:PO X lo tl)(hu:PO X hi th):PE X (.Subscript e (.Slice lo hi none p2) pos) (X3 r te tl th):=by
 intro pins s σ H Q I h;refine Subscript_ (cj (he pins s σ H _ I h) ?_);rintro v s1 ⟨x,H1,I1,r1,q1⟩;refine wpAny_Slice (cj (hl pins s1 σ H1 _ I1 q1) λvl s2 ⟨l,H2,I2,pl,q2⟩=>cj (hu pins s2 σ H2 _ I2 q2) λvu s3 ⟨u,H3,I3,pu,q3⟩=>?_);rw[evalPart_none];refine bg ?_;have I4:Inv X pins σ H3 {s3 with heap:=s3.heap.push {cls:=.type "slice",data:=.fields #[vl,vu,.none]}}:=I3.kept (t':=s3.toks) λb ob q=>bQ _ q;obtain⟨T,id,hT,ht,hg⟩:=hr pins {s3 with heap:=s3.heap.push {cls:=.type "slice",data:=.fields #[vl,vu,.none]}} σ H3 x v vl vu l u s3.heap.objs.size Q I4 r1 (Heap.IsSliceOf.new ..) pl pu q3;show wpAny (model X.prog X.w) X.A (subscriptTail e (.Slice lo hi none p2) v (.ref s3.heap.objs.size)) (EP X pins σ Q) X.xe {s3 with heap:=s3.heap.push {cls:=.type "slice",data:=.fields #[vl,vu,.none]}};exact tail_any (ops:=[.ref s3.heap.objs.size,v]) ht hT hg (by with_unfolding_all rfl)
def pv(xs:List V)(lo hi:Option Int):List V:=(xs.drop (HT.cF xs.length 0 lo)).take (HT.cF xs.length xs.length hi-HT.cF xs.length 0 lo)
theorem jF(xs:List V)(lo hi:Option Int):(pv xs lo hi).length<=xs.length:=by
 unfold pv;rw[fT,List.length_drop];omega
def Tb(K:PySem.W.Frag):V->Option Int->Option Int->Hp->VK->Prop:=λx lo hi H Q=>∃a xs,x=.ref a/\fb K H a xs /\
 ¬(HT.cF xs.length 0 lo=0/\HT.cF xs.length xs.length hi=xs.length)/\∀p,H p=none->Q (.ref p) (bH H p (.tup (pv xs lo hi)))
theorem HL:OC X (Tb X.K):=by
 intro pins s σ H x v vl vu lo hi sl Q I rx hs pl pu h;obtain⟨a,xs,rfl,hx,hw,q⟩:=h;cases rx;obtain⟨ar,r,ht,hz⟩:=I.tuple hx;have bS:ar.toArray.size=xs.length:=by rw[cB];exact r.length.symm
 refine⟨"tuple",_,uB.lookup,ht.typeIs,?_⟩;refine HT.ip ht hs pl pu (by rw[bS];exact hw) ?_ (by rw[bS];exact hz);rw[bS];refine⟨.ref s.heap.objs.size,_,I.laid (t':=s.toks) (o:=.tup (pv xs lo hi)) (λb ob q=>bQ _ q) (a7 _) ?_,rfl,q _ (I.bY.fresh (a7 _))⟩;exact⟨fh (jF xs lo hi) hz,_,(r.drop (HT.cF xs.length 0 lo)).take (HT.cF xs.length xs.length hi-HT.cF xs.length 0 lo),IsTup.new _ _⟩
def OD(K:PySem.W.Frag):R2:=λx y H Q=>∃a b xs ys,x=.ref a/\y=.ref b/\fb K H a xs/\fb K H b ys/\xs≠[]/\xs.length+ys.length<=sizeLine /\
 (ys=[]->Q (.ref a) H)/\(ys≠[]->∀p,H p=none->Q (.ref p) (bH H p (.tup (xs++ys))))
theorem aE.nG{xs:List V}{us:List Value}(r:aE xs us):us=[]↔xs=[]:=by
 cases r with
 | nil=>simp
 | cons _ _=>simp
theorem BP:gI X (binaryOp .Add) (OD X.K):=by
 intro pins s σ H x y v u Q I rx ry h;obtain⟨a,b,xs,ys,rfl,rfl,ha,hb,hx,hz,q1,q2⟩:=h;cases rx;cases ry;obtain⟨ar,r1,p1,_⟩:=I.tuple ha;obtain⟨yw,r2,p2,_⟩:=I.tuple hb;refine HT.BJ p1 p2 (λz=>hx (r1.nG.mp z)) (λz=>⟨.ref a,H,I,rfl,q1 (r2.nG.mp z)⟩) (λz=>?_) (by rw[<- r1.length,<- r2.length];exact hz);refine⟨.ref s.heap.objs.size,_,I.laid (t':=s.toks) (o:=.tup (xs++ys)) (λb ob q=>bQ _ q) (a7 _) ?_,rfl,q2 (λw=>z (r2.nG.mpr w)) _ (I.bY.fresh (a7 _))⟩;exact⟨by rw[cz];exact hz,_,r1.append r2,IsTup.new _ _⟩
end
noncomputable def yx(n:Nat)(i:Int):Option Nat:=if 0<=i then (if i<n then some i.toNat else none) else if -(n:Int)<=i then some (i+n).toNat else none
def oG{α:Type}(xs:List α)(i:Int):Option α:=(yx xs.length i).bind λj=>xs[j]?
theorem sT{n:Nat}{i:Int}{j:Nat}(h:yx n i=some j):seqIndex? i n=some j/\j<n/\-(n:Int)<=i/\i<n:=by
 unfold yx at h;by_cases h0:0<=i
 ·rw[aG h0]at h;by_cases h1:i<n
  ·rw[aG h1]at h;have e:i.toNat=j:=cH h;exact⟨by rw[seqIndex_of h0 h1,e],∅,∅,h1⟩
  ·rw[aT h1]at h;cases h
 ·rw[aT h0]at h;by_cases h1:-(n:Int)<=i
  ·rw[aG h1]at h;have e:(i+n).toNat=j:=cH h;exact⟨by rw[seqIndex_neg ∅ h1,e],∅,h1,∅⟩
  ·rw[aT h1]at h;cases h
theorem nH{α:Type}{xs:List α}{i:Int}{v:α}(h:oG xs i=some v):∃j,seqIndex? i xs.length=some j/\xs[j]?=some v/\j<xs.length/\-(xs.length:Int)<=i/\i<xs.length:=by
 unfold oG at h
 cases e:yx xs.length i with
 | none=>rw[e]at h;cases h
 | some j =>
  rw[e]at h;obtain⟨h1,h2,h3,h4⟩:=sT e;exact⟨j,h1,h,h2,h3,h4⟩
noncomputable def sU(b:Expr):Prop:=∀o i,subscripted b false o i=operate [o,i] (getItem o i)
def OE(X:Cx)(r:R2):Prop :=
 ∀(value eh:Expr)(pins:List (Addr×Obj))(s:Shared)(σ:St)(H:Hp)(x y:V)(v u:Value)(Q:VK),Inv X pins σ H s->RelV x v->RelV y u->r x y H Q ->
  subscripted eh false v u=operate [v,u] (getItem v u)->wpAny (model X.prog X.w) X.A (subscriptTail value eh v u) (EP X pins σ Q) X.xe s
def BQ(X:Cx)(id:String)(r:V->List V->Hp->VK->Prop):Prop :=
 ∀(pins:List (Addr×Obj))(s:Shared)(σ:St)(H:Hp)(x:V)(xs:List V)(v:Value)(us:List Value)(Q:VK),Inv X pins σ H s->RelV x v->aE xs us->r x xs H Q ->
  wpAny (model X.prog X.w) X.A (call (.builtin id) (v::us)) (EP X pins σ Q) X.xe s
section
variable {X:Cx} {a b:Expr} {ta tb:TE} {pos:Pos}
theorem OF{r:R2}(hr:OE X r)(ha:PE X a ta)(hb:PE X b tb)(hs:sU b):PE X (.Subscript a b pos) (Lf r ta tb):=by
 intro pins s σ H Q I h;exact Subscript_ (Hq ha hb I h λv u s2 x y H2 I2 rx ry q=>hr a b pins s2 σ H2 x y v u Q I2 rx ry q (hs _ _))
def Tc(K:PySem.W.Frag):R2:=λx y H Q=>∃p xs i v,x=.ref p/\y=.int i/\eF K H p xs/\oG xs i=some v/\Q v H
def Td(K:PySem.W.Frag):R2:=λx y H Q=>∃p xs i v,x=.ref p/\y=.int i/\fb K H p xs/\oG xs i=some v/\Q v H
def Te:R2:=λx y H Q=>∃z i c,x=.str z/\y=.int i/\z.length<=sizeLine/\oG z.cps.toList i=some c/\Q (.str ⟨#[c]⟩) H
theorem BR:OE X (Tc X.K):=by
 intro value eh pins s σ H x y v u Q I rx ry h hs;obtain⟨p,xs,i,z,rfl,rfl,hq,he,q⟩:=h;cases rx;obtain⟨t,rfl⟩:=ry;obtain⟨ar,r,pl,hz⟩:=I.list hq;obtain⟨j,h1,h2,h3,h4,h5⟩:=nH he;obtain⟨w,ew,qY⟩:=r.get h2;have hl:=r.length;have hn:=gY;have fin:EP X pins σ Q w s:=⟨z,H,I,qY,q⟩;by_cases h0:0<=i
 ·have hj:i.toNat=j:=by
   rw[seqIndex_of h0 h5]at h1;exact cH h1
  exact item_listR pl.isList h0 ∅ (by rw[hj];simpa using ew) fin hs
 ·have hj:(i+(ar.toArray.size:Int)).toNat=j:=by
   rw[seqIndex_neg ∅ h4]at h1;rw[cB,<- hl];exact cH h1
  exact subscriptTail_builtinR (x:=w) pl.isList.typeIs slot_list_getitem.lookup
   (wpAny_getItem_list_neg (Q:=λr s'=>r=w/\EP X pins σ Q r s') pl.isList ∅ (by rw[cB]<;>omega) ∅ (by rw[hj];simpa using ew) ⟨rfl,fin⟩) hs
theorem yz:OE X (Td X.K):=by
 intro value eh pins s σ H x y v u Q I rx ry h hs;obtain⟨p,xs,i,z,rfl,rfl,hq,he,q⟩:=h;cases rx;obtain⟨t,rfl⟩:=ry;obtain⟨ar,r,pl,hz⟩:=I.tuple hq;obtain⟨j,h1,h2,h3,h4,h5⟩:=nH he;obtain⟨w,ew,qY⟩:=r.get h2;have hl:=r.length;have hn:=gY;have fin:EP X pins σ Q w s:=⟨z,H,I,qY,q⟩
 exact subscriptTail_builtinR (x:=w) pl.typeIs slot_tuple_getitem.lookup
  (getItem_tuple (j:=j) (Q:=λr s'=>r=w/\EP X pins σ Q r s') pl ∅ ∅ (by rw[cB,<- hl];exact h1) (by simpa using ew) ⟨rfl,fin⟩) hs
theorem HM:OE X Te:=by
 intro value eh pins s σ H x y v u Q I rx ry h hs;obtain⟨z,i,c,rfl,rfl,hz,he,q⟩:=h;obtain⟨t,rfl⟩:=rx;obtain⟨t',rfl⟩:=ry;obtain⟨j,h1,h2,h3,h4,h5⟩:=nH he;have hl:z.cps.toList.length=z.length:=by simp[Str.length]
 rw[hl]at h1 h4 h5;have hn:=gY
 exact tail_any (typeIs_str s z t) slot_str_getitem.lookup (getItem_str (c:=c) (by
  have e1:decide (i < -(2 ^ 63:Int))=false:=c_ ∅;have e2:decide (i ≥ 2 ^ 63)=false:=c_ ∅;rw[e1,e2,Bool.or_false]) (by rw[h1];simpa using h2) ⟨.str ⟨#[c]⟩,H,I.tok _,⟨_,rfl⟩,q⟩) hs
theorem rf(ar:List Value)(n j:Nat)(u:Value):Obj.mapSeq (·.setIfInBounds j u) {cls:=.type "list",data:=.seq ar.toArray n}={cls:=.type "list",data:=.seq (ar.set j u).toArray n}:=by
 simp[Obj.mapSeq]
theorem Inv.lst{pins:List (Addr×Obj)}{σ:St}{H:Hp}{s:Shared}{p:Addr}{xs:List V}(I:Inv X pins σ H s)(h:H p=some (.lst xs)):∃(ar:List Value) (n:Nat),aE xs ar/\s.heap.get? p=some {cls:=.type "list",data:=.seq ar.toArray n}/\xs.length<=sizeLine:=by
 obtain⟨z,ar,n,r,e⟩:=I.bY p _ h;exact⟨ar,n,r,e,z⟩
theorem Inv.HN{pins:List (Addr×Obj)}{σ:St}{H:Hp}{s:Shared}{p:Addr}{xs ys:List V}{ar its':List Value}{n n':Nat}{f:Obj->Obj}(I:Inv X pins σ H s)(h:H p=some (.lst xs)) (ho:s.heap.get? p=some {cls:=.type "list",data:=.seq ar.toArray n}) (hf:f {cls:=.type "list",data:=.seq ar.toArray n}={cls:=.type "list",data:=.seq its'.toArray n'}) (r:aE ys its') (hz:ys.length<=sizeLine) (t:Nat):Inv X pins σ (bH H p (.lst ys)) {s with heap:=s.heap.update p f,toks:=t}:=by
 have e:(s.heap.update p f).get? p=some {cls:=.type "list",data:=.seq its'.toArray n'}:=by
  rw[Heap.get?_update_self f ho (by rw[hf]<;>rfl),hf]
 refine I.write (x:=p) (e:=p) (by rw[h];trivial) (.inl rfl) (λb u hb q=>(Heap.get?_update_other _ _ (ig hb)).trans q) ⟨_,e⟩ ?_;exact⟨hz,its',n',r,e⟩
def OG:V->V->V->Hp->(Hp->Prop)->Prop:=λo i v H Q=>∃p xs k j,o=.ref p/\i=.int k/\H p=some (.lst xs)/\yx xs.length k=some j/\Q (bH H p (.lst (xs.set j v)))
theorem yA:Hj X OG:=by
 intro pins s σ H o i v ov iv u Q I ro ri rv h;obtain⟨p,xs,k,j,rfl,rfl,hp,hj,q⟩:=h;cases ro;obtain⟨t,rfl⟩:=ri;obtain⟨ar,n,r,ho,hz⟩:=I.lst hp;obtain⟨h1,h2,h3,h4⟩:=sT hj;have hl:=r.length;have hn:=gY
 have I':Inv X pins σ (bH H p (.lst (xs.set j v))) {s with heap:=s.heap.update p (Obj.mapSeq (·.setIfInBounds j u))} :=
  I.HN hp ho (rf ar n j u) (r.set rv j) (by rw[lW];exact hz) s.toks
 by_cases h0:0<=k
 ·have hk:k.toNat=j:=by
   rw[seqIndex_of h0 h4]at h1;exact cH h1
  exact PySem.W.ki_setAt ho h0 ∅ (by rw[cB,<- hl];exact h4) (by rw[hk];exact⟨_,I',q⟩)
 ·have hk:(k+(ar.toArray.size:Int)).toNat=j:=by
   rw[seqIndex_neg ∅ h3]at h1;rw[cB,<- hl];exact cH h1
  exact PySem.W.ki_setBack ho ∅ (by rw[cB,<- hl];exact h3) ∅ (by rw[hk];exact⟨_,I',q⟩)
theorem nI(lo hi:Option Int)(n:Nat):(sliceBounds lo hi none n).1=((HT.cF n 0 lo:Nat):Int)/\(sliceBounds lo hi none n).2.1=((HT.cF n n hi:Nat):Int)/\(sliceBounds lo hi none n).2.2=1:=by
 refine⟨?_,?_,rfl⟩
 ·cases lo with
  | none=>simp[sliceBounds,HT.cF]
  | some i =>
   simp only[sliceBounds,HT.cF,Option.getD_none,show(1:Int)>0 by decide,fO];by_cases h:i<0
   ·simp only[h,fO]<;>omega
   ·simp only[h,if_false]<;>omega
 ·cases hi with
  | none=>simp[sliceBounds,HT.cF]
  | some i =>
   simp only[sliceBounds,HT.cF,Option.getD_none,show(1:Int)>0 by decide,fO];by_cases h:i<0
   ·simp only[h,fO]<;>omega
   ·simp only[h,if_false]<;>omega
theorem lZ(ar:List Value)(lo hi:Option Int):slicePick ar.toArray lo hi none=((ar.drop (HT.cF ar.length 0 lo)).take (HT.cF ar.length ar.length hi-HT.cF ar.length 0 lo)).toArray:=by
 obtain⟨h1,h2,h3⟩:=nI lo hi ar.toArray.size;unfold slicePick;rw[h1,h2,h3];simp only[sliceRange_one,pick_run,cB]<;>rfl
def Tf(K:PySem.W.Frag):V->Option Int->Option Int->Hp->VK->Prop:=λx lo hi H Q=>∃a xs,x=.ref a/\eF K H a xs/\∀p,H p=none->Q (.ref p) (bH H p (.lst (pv xs lo hi)))
theorem BS:OC X (Tf X.K):=by
 intro pins s σ H x v vl vu lo hi sl Q I rx hs pl pu h;obtain⟨a,xs,rfl,hx,q⟩:=h;cases rx;obtain⟨ar,r,ht,hz⟩:=I.list hx;have bS:=r.length;refine⟨"list",_,slot_list_getitem.lookup,ht.isList.typeIs,?_⟩;refine wpAny_getItem_list_slice ht.isList hs pl pu .none (by simp) ?_ (by rw[cB]<;>omega);rw[lZ,<- bS];refine⟨.ref s.heap.objs.size,_,I.laid (t':=s.toks) (o:=.lst (pv xs lo hi)) (λb ob q=>bQ _ q) (a7 _) ?_,rfl,q _ (I.bY.fresh (a7 _))⟩;exact⟨fh (jF xs lo hi) hz,_,0,(r.drop (HT.cF xs.length 0 lo)).take (HT.cF xs.length xs.length hi-HT.cF xs.length 0 lo),d5 _ rfl⟩
theorem iq:eM X (.builtin "len") (λxs H Q=>∃p ys,xs=[.ref p]/\(eF X.K H p ys\/fb X.K H p ys)/\Q (.int ys.length) H):=by
 intro pins s σ H xs us Q I r h;obtain⟨p,ys,rfl,hq,q⟩:=h;obtain⟨u,rfl,rx⟩:=vals1 r;cases rx;have hn:=gY;rcases hq with hq | hq
 ·obtain⟨ar,r',pl,hz⟩:=I.list hq;have bS:=r'.length;exact Calls.call_len_list pl.isList (by simp only[cB]<;>omega) ⟨.int ys.length,H,I.tok _,⟨s.toks+1,by rw[cB,bS]⟩,q⟩
 ·obtain⟨ar,r',pl,hz⟩:=I.tuple hq;have bS:=r'.length;exact len_tuple pl (by simp only[cB]<;>omega) ⟨.int ys.length,H,I.tok _,⟨s.toks+1,by rw[cB,bS]⟩,q⟩
theorem nJ:eM X (.builtin "len") (λxs H Q=>∃z,xs=[.str z]/\z.length<=sizeLine/\Q (.int z.length) H):=by
 intro pins s σ H xs us Q I r h;obtain⟨z,rfl,hz,q⟩:=h;obtain⟨u,rfl,t,rfl⟩:=vals1 r;have hn:=gY;exact len_str ∅ ⟨.int z.length,H,I.tok _,⟨_,rfl⟩,q⟩
theorem nK:eM X (.type "list") (λxs H Q=>∃p ys,xs=[.ref p]/\(eF X.K H p ys\/fb X.K H p ys)/\∀l,H l=none->Q (.ref l) (bH H l (.lst ys))):=by
  intro pins s σ H xs us Q I r h;obtain⟨p,ys,rfl,hq,q⟩:=h;obtain⟨u,rfl,rx⟩:=vals1 r;cases rx
  have fin : ∀ (ar : List Value), aE ys ar -> ys.length <= sizeLine -> ∀ (h' : Heap) (c' : Nat), (∀ b o', s.heap.get? b = some o' -> h'.get? b = some o') ->
      h'.get? s.heap.objs.size=some {cls:=.type "list",dict:=none,data:=.seq ar.toArray c',slots:=#[]}->EP X pins σ Q (.ref s.heap.objs.size) {s with heap:=h'}:=λar r' hz h' c' kp e =>
    ⟨.ref s.heap.objs.size,_,I.laid (t':=s.toks) kp (a7 _) (show bX X.prog X.w _ h' _ (.lst ys) from ⟨hz,ar,c',r',e⟩),rfl,q _ (I.bY.fresh (a7 _))⟩
  rcases hq with hq | hq
  · obtain⟨ar,r',pl,hz⟩:=I.list hq;have bS:=r'.length;obtain⟨o,ho,hc,n,hd⟩:=pl.isList;exact call_list_seq p (.inl rfl) ho hc hd (λh' c' kp e=>fin ar r' hz h' c' kp e) (by simp only[cB]<;>omega)
  · obtain⟨ar,r',pl,hz⟩:=I.tuple hq;have bS:=r'.length;obtain⟨o,ho,hc,n,hd⟩:=pl;exact call_list_seq p (.inr rfl) ho hc hd (λh' c' kp e=>fin ar r' hz h' c' kp e) (by simp only[cB]<;>omega)
theorem gQ:eM X (.type "tuple") (λxs H Q=>∃p ys,xs=[.ref p]/\((eF X.K H p ys/\∀l,H l=none->Q (.ref l) (bH H l (.tup ys)))\/(fb X.K H p ys/\Q (.ref p) H))):=by
 intro pins s σ H xs us Q I r h;obtain⟨p,ys,rfl,h⟩:=h;obtain⟨u,rfl,rx⟩:=vals1 r;cases rx;rcases h with⟨hq,q⟩|⟨hq,q⟩
 ·obtain⟨ar,r',pl,hz⟩:=I.list hq;have bS:=r'.length;refine call_tuple_list pl.isList (λh' kp=>?_) (by simp only[cB]<;>omega);have I1:Inv X pins σ H {s with heap:=h'}:=I.kept (t':=s.toks) kp
  have I2:Inv X pins σ (bH H h'.objs.size (.tup ys)) {s with heap:=h'.push {cls:=.type "tuple",data:=.seq ar.toArray}} :=
   I1.laid (t':=s.toks) (λb o e=>bQ _ e) (a7 _) (show bX X.prog X.w _ _ _ (.tup ys) from ⟨hz,ar,r',IsTup.new _ _⟩)
  exact⟨.ref h'.objs.size,_,I2,rfl,q _ (I1.bY.fresh (a7 _))⟩
 ·obtain⟨ar,r',pl,hz⟩:=I.tuple hq;exact call_tuple_same pl ⟨.ref p,H,I,rfl,q⟩
def Tg(K:PySem.W.Frag)(T:String)(x:V)(H:Hp):Prop:=match x with
  | .str _=>T = "str"
  | .int _=>T = "int"
  | .ref p => (T = "list" /\ ∃ xs, eF K H p xs) \/ (T = "tuple" /\ ∃ o, K.lookup p = some o /\ o.cls = .type "tuple" /\ o.dict = none) \/
      (T = "dict" /\ ((∃ao,H p=some (.dK ao))\/∃ao,Rd H p (.dT ao)))\/(T = "set" /\ ∃S n,H p=some (.set S n))
  | _=>False
theorem yB{pins:List (Addr×Obj)}{σ:St}{H:Hp}{s:Shared}{T:String}{x:V}{v:Value}(I:Inv X pins σ H s)(r:RelV x v)(ty:Tg X.K T x H):s.TypeIs v T/\∀a,v=.ref a->∃ob,s.heap.get? a=some ob/\ob.dict=none:=by
 cases x with
 | str z =>
  obtain⟨t,rfl⟩:=r;cases (show T = "str" from ty);exact⟨typeIs_str s z t,λ_ e=>nomatch e⟩
 | int i =>
  obtain⟨t,rfl⟩:=r;cases (show T = "int" from ty);exact⟨typeIs_int s i t,λ_ e=>nomatch e⟩
 | ref p =>
  cases r;rcases ty with⟨rfl,xs,hq⟩|⟨rfl,o,hk,hc,hd⟩|⟨rfl,hk⟩|⟨rfl,S,n,hk⟩
  ·obtain⟨ar,_,pl,_⟩:=I.list hq;refine⟨pl.isList.typeIs,λa e=>?_⟩;cases e;obtain⟨o,n,e,c,hd,_⟩:=pl;exact⟨o,e,hd⟩
  ·refine⟨⟨o,I.nk p o hk,hc⟩,λa e=>?_⟩;cases e;exact⟨o,I.nk _ o hk,hd⟩
  ·have z:∃o,s.heap.get? p=some o/\o.ExactDict:=by
    rcases hk with⟨ao,hk⟩|⟨ao,hk⟩
    ·obtain⟨_,_,_,_,o,_,_,e,ex,_⟩:=I.bY p _ hk;exact⟨o,e,ex⟩
    ·obtain⟨_,_,_,_,o,_,_,e,ex,_⟩:=yh I.bY hk;exact⟨o,e,ex⟩
   obtain⟨o,e,ex⟩:=z;refine⟨⟨o,e,ex.1⟩,λa e2=>?_⟩;cases e2;exact⟨o,e,ex.2.1⟩
  ·obtain⟨o,_,_,_,e,ex,_⟩:=I.bY p _ hk;refine⟨⟨o,e,ex.1⟩,λa e2=>?_⟩;cases e2;exact⟨o,e,ex.2.1⟩
 | _=>exact False.elim ty
def OH(K:PySem.W.Frag)(T:String)(r:V->List V->Hp->VK->Prop)(to:TE):TE:=λσ H Q=>to σ H λx H1=>Tg K T x H1/\r x [] H1 Q
def Th(K:PySem.W.Frag)(T:String)(r:V->List V->Hp->VK->Prop)(to:TE)(t:TA):TE:=λσ H Q=>to σ H λx H1=>Tg K T x H1/\t σ H1 λxs H2=>r x xs H2 Q
variable {o e:Expr} {es:List Expr} {to:TE} {t:TA} {name:Str} {yd ir:Pos} {T id:String} {r:V->List V->Hp->VK->Prop}
theorem rg(pa:PlainAttrs T)(slot:Slot T name id) (Ti:typeOf (.builtin id)=pure (.type "method_descriptor")) (hm:BQ X id r) (ho:PE X o to) (yC:attributeBase o name X.env (eval o X.env)=eval o X.env:=by rfl) (yD:(yd.endLine==ir.line)=true:=by rfl):PE X (.Call (.Attribute o name yd) [] [] ir) (OH X.K T r to):=by
 intro pins s σ H Q I h;refine wpAny_Call_method0_late yC yD (cj (ho pins s σ H _ I h) ?_);rintro v s1 ⟨x,H1,I1,r1,ty,q1⟩;obtain⟨h1,h2⟩:=yB I1 r1 ty;exact⟨T,id,pa,slot,Ti,h1,h2,Calls.callWith_builtin rfl (PySem.evalArgs_none (hm pins s1 σ H1 x [] v [] Q I1 r1 .nil q1))⟩
theorem mB (pa : PlainAttrs T) (slot : Slot T name id) (Ti : typeOf (.builtin id) = pure (.type "method_descriptor")) (hm : BQ X id r) (ho : PE X o to) (ha : PA X (e :: es) t)
    (yC:attributeBase o name X.env (eval o X.env)=eval o X.env:=by rfl)
    (l0:((backTo ir (starEach (e::es) X.env)).all (λx=>!x.1)&&(backToKw ir (keywordEach [] X.env)).all (λx=>x.1.isSome)
      && decide ((e::es).length+([]:List Keyword).length+(if ([]:List Keyword).isEmpty then 0 else 1)<30))=true:=by rfl)
    (yD:(yd.endLine==ir.line)=true:=by rfl) (hs:starEach (e::es) X.env=(false,eval e X.env)::starEach es X.env:=by rfl) (HP:(backTo ir (starEach es X.env)).any (·.1)=false:=by rfl) :
    PE X (.Call (.Attribute o name yd) (e::es) [] ir) (Th X.K T r to t):=by
  intro pins s σ H Q I h;refine wpAny_Call_method_late yC l0 yD rfl (cj (ho pins s σ H _ I h) ?_);rintro v s1 ⟨x,H1,I1,r1,ty,q1⟩;obtain⟨h1,h2⟩:=yB I1 r1 ty;refine⟨T,id,pa,slot,Ti,h1,h2,?_⟩;have hA:=ha ir pins s1 σ H1 _ I1 q1;rw[hs]at hA⊢;refine Calls.callWith_builtin (by show(false||(backTo ir (starEach es X.env)).any (·.1))=false;rw[HP]<;>rfl) (Calls.evalArgs_plain ?_);exact cj hA λus s2 ⟨vs,H2,I2,r2,q2⟩=>hm pins s2 σ H2 x vs v us Q I2 r1 r2 q2
end
def Wc(X:Cx)(id:String)(r:V->List V->Hp->VK->Prop):Prop :=
 ∀(pins:List (Addr×Obj))(s:Shared)(σ:St)(H:Hp)(x:V)(xs:List V)(v:Value)(us:List Value)(Q:VK),Inv X pins σ H s->RelV x v->aE xs us->r x xs H Q ->
  wpAny (model X.prog X.w) X.A (call (.builtin id) (v::us)) (EP X pins σ Q) X.xe s
theorem aE.one{x:V}{us:List Value}(h:aE [x] us):∃u,us=[u]/\RelV x u:=by
 cases h with
 | cons r t=>cases t;exact⟨_,rfl,r⟩
theorem aE.two{x y:V}{us:List Value}(h:aE [x,y] us):∃u v,us=[u,v]/\RelV x u/\RelV y v:=by
 cases h with
 | cons r t=>obtain⟨v,rfl,q⟩:=aE.one t;exact⟨_,v,rfl,r,q⟩
theorem aE.zero:∀{us:List Value},aE [] us->us=[]
 | _,.nil=>rfl
theorem aE.dropLast{xs:List V}{us:List Value}(h:aE xs us):aE xs.dropLast us.dropLast:=by
 induction h with
 | nil=>exact .nil
 | cons r t ih =>
  cases t with
  | nil=>exact .nil
  | cons q t'=>exact .cons r ih
theorem aE.eraseIdx:∀{xs:List V}{us:List Value}(i:Nat),aE xs us->aE (xs.eraseIdx i) (us.eraseIdx i)
 | _,_,_,.nil=>.nil
 | _,_,0,.cons _ t=>t
 | _,_,i+1,.cons r t=>.cons r (aE.eraseIdx i t)
theorem aE.reverse{xs:List V}{us:List Value}(h:aE xs us):aE xs.reverse us.reverse:=by
 induction h with
 | nil=>exact .nil
 | cons r t ih=>rw[List.reverse_cons,List.reverse_cons];exact aE.append ih (.cons r .nil)
theorem aE.rep{xs:List V}{us:List Value}(h:aE xs us):∀k:Nat,aE (List.replicate k xs).flatten (List.replicate k us).flatten
 | 0=>.nil
 | k+1=>by
  rw[uI,uI,wu,wu];exact aE.append h (aE.rep h k)
theorem foldl_rep(ar:List Value):∀(k:Nat)(aA:List Value),List.foldl (λx1 x2=>x1++x2) aA.toArray (List.replicate k ar.toArray)=(aA++(List.replicate k ar).flatten).toArray
 | 0,aA=>by simp
 | k+1,aA=>by
  have e:aA.toArray++ar.toArray=(aA++ar).toArray:=by simp
  have e2:(aA++ar)++(List.replicate k ar).flatten=aA++(List.replicate (k+1) ar).flatten:=by
   rw[uI,wu,jM]
  rw[<- e2,<- foldl_rep ar k (aA++ar),<- e,uI,Bn]
section
variable {X:Cx} {pins:List (Addr×Obj)} {σ:St} {H:Hp} {s:Shared} {l b:Addr} {xs ys zs:List V}
theorem Inv.HQ{ar its':List Value}{n:Nat}{f:Array Value->Array Value}{t':Nat}(I:Inv X pins σ H s)(hH:H l=some (.lst xs)) (e:s.heap.get? l=some {cls:=.type "list",data:=.seq ar.toArray n}) (hf:f ar.toArray=its'.toArray) (hv:aE ys its') (hz:ys.length<=sizeLine):Inv X pins σ (bH H l (.lst ys)) {s with heap:=s.heap.update l (Obj.mapSeq f),toks:=t'}:=by
 have q:=PySem.IsL.update e f;rw[hf]at q;refine I.write (x:=l) (e:=l) (by rw[hH];exact trivial) (.inl rfl) (λb' u hb hu=>(Heap.get?_update_other s.heap (Obj.mapSeq f) (ig hb)).trans hu) ⟨_,q⟩ ?_;exact⟨hz,its',_,hv,q⟩
theorem Inv.OI{ar:List Value}{t':Nat}(I:Inv X pins σ H s)(hv:aE ys ar)(hz:ys.length<=sizeLine):Inv X pins σ (bH H s.heap.objs.size (.lst ys)) {s with heap:=s.heap.push {cls:=.type "list",data:=.seq ar.toArray},toks:=t'} :=
 I.laid (λ_ _ q=>bQ _ q) (a7 _) ⟨hz,ar,0,hv,d5 _ rfl⟩
theorem Inv.fresh(I:Inv X pins σ H s):H s.heap.objs.size=none:=I.bY.fresh (a7 _)
theorem Inv.vn(I:Inv X pins σ H s)(hH:H l=some (.lst xs)):xs.length<=sizeLine/\∃(ar:List Value) (n:Nat),aE xs ar/\xs.length=ar.length/\s.heap.get? l=some {cls:=.type "list",data:=.seq ar.toArray n}:=by
 obtain⟨z,ar,n,r,e⟩:=I.bY l _ hH;exact⟨z,ar,n,r,r.length,e⟩
theorem yE{n:Nat}(h:n<=sizeLine):Builtin.List.listTooLong n=false:=by
 unfold Builtin.List.listTooLong;exact c_ ∅
end
section
variable {X:Cx}
def BU:V->List V->Hp->VK->Prop:=λx vs H Q=>∃l xs y,x=.ref l/\vs=[y]/\H l=some (.lst xs)/\xs.length<sizeLine/\Q .ba (bH H l (.lst (xs++[y])))
theorem mC:Wc X "list.append" BU:=by
 intro pins s σ H x vs v us Q I rx rv h;obtain⟨l,xs,y,rfl,rfl,hH,hz,q⟩:=h;cases rx;obtain⟨u,rfl,ru⟩:=rv.one;obtain⟨z,ar,n,r,hl,e⟩:=I.vn hH;refine jf F.slot_list_append ⟨_,e,rfl⟩ F.entry_list_append (F.args_list_append_2 _ _) (PySem.list_append l ar.toArray n u (by rw[cB];omega)) ⟨e,?_⟩;refine⟨.ba,_,I.HQ (its':=ar++[u]) hH e (by simp) (r.append (.cons ru .nil)) ?_,rfl,q⟩;rw[cz,List.length_singleton];omega
def HR:V->List V->Hp->VK->Prop:=λx vs H Q=>∃l xs,x=.ref l/\vs=[]/\H l=some (.lst xs)/\Q .ba (bH H l (.lst []))
theorem yF:Wc X "list.clear" HR:=by
 intro pins s σ H x vs v us Q I rx rv h;obtain⟨l,xs,rfl,rfl,hH,q⟩:=h;cases rx;have X4:=rv.zero;subst X4;obtain⟨z,ar,n,r,hl,e⟩:=I.vn hH;refine jf F.slot_list_clear ⟨_,e,rfl⟩ F.entry_list_clear (F.args_list_clear_1 _) (AutoSeq1.list_clear_list_0 l ar.toArray n (by rw[cB];omega)) ⟨e,?_⟩;exact⟨.ba,_,I.HQ (its':=[]) (ys:=[]) hH e rfl .nil (lX _),rfl,q⟩
def Tj:R2:=λx y H Q=>∃l b xs zs,x=.ref l/\y=.ref b/\H l=some (.lst xs)/\H b=some (.lst zs)/\xs.length+zs.length<=sizeLine/\∀p,H p=none->Q (.ref p) (bH H p (.lst (xs++zs)))
theorem HS:gI X (binaryOp .Add) Tj:=by
 intro pins s σ H x y v u Q I rx ry h;obtain⟨l,b,xs,zs,rfl,rfl,hH,hB,hz,q⟩:=h;cases rx;cases ry;obtain⟨z,ar,n,r,hl,e⟩:=I.vn hH;obtain⟨z2,yw,n2,r2,OJ,e2⟩:=I.vn hB;refine PySem.P.add_list e e2 ?_ (by rw[cB,cB];omega);have ea:ar.toArray++yw.toArray=(ar++yw).toArray:=by simp
 rw[ea];exact⟨.ref _,_,I.OI (t':=s.toks) (r.append r2) (by rw[cz];omega),rfl,q _ I.fresh⟩
def Tl:R2:=λx y H Q=>∃l k xs,x=.ref l/\y=.int k/\H l=some (.lst xs)/\-(2 ^ 63)<=k/\k<2 ^ 63/\xs.length*k.toNat<=sizeLine /\
 ∀p,H p=none->Q (.ref p) (bH H p (.lst (List.replicate k.toNat xs).flatten))
theorem nL{α:Type}(xs:List α)(k:Nat):(List.replicate k xs).flatten.length=k*xs.length:=by
 induction k with
 | zero=>simp
 | succ k ih=>rw[uI,wu,cz,ih,Nat.succ_mul,Nat.add_comm]
theorem HU:gI X (binaryOp .Mult) Tl:=by
 intro pins s σ H x y v u Q I rx ry h;obtain⟨l,k,xs,rfl,rfl,hH,h1,h2,hz,q⟩:=h;cases rx;obtain⟨t,rfl⟩:=ry;obtain⟨z,ar,n,r,hl,e⟩:=I.vn hH;have bS:ar.toArray.size*k.toNat<=sizeLine:=by rw[cB,<- hl];exact hz
 have yG:¬ar.toArray.size*k.toNat>(2 ^ 63-1) / 8:=by
  have:(sizeLine:Nat)<=(2 ^ 63-1) / 8:=by decide
  omega
 have Tn:¬(!Builtin.List.listFitsIndex k)=true:=by
  rw[fitsIndex_both h1 h2];exact aI
 have OK:¬Builtin.List.listTooLong (ar.toArray.size*k.toNat)=true:=by
  rw[yE bS];exact aI
 have l5:List.foldl (λx1 x2=>x1++x2) #[] (List.replicate (if ar.toArray.isEmpty=true then 0 else k.toNat) ar.toArray)=(List.replicate k.toNat ar).flatten.toArray:=by
  have f0:∀m:Nat,List.foldl (λx1 x2=>x1++x2) #[] (List.replicate m ar.toArray)=(List.replicate m ar).flatten.toArray:=λm=>by
   have:=foldl_rep ar m [];rw[wD]at this;exact this
  rw[f0]
  cases ar with
  | nil=>simp
  | cons a r'=>rw[aT (by simp)]
 refine wpAny_binaryOp_repeat_ref (T := "list") (U := "int") (by decide) ⟨_,e,rfl⟩ (λs'=>typeIs_int s' k t) noFill_list_mul F.fills_int_mul Bo repeat_list F.slot_int_index.lookup
  (jf Bo (typeIs_int s k t) F.entry_int_rmul (F.args_int_rmul_2 _ _) (int___rmul___int_list k t l ar.toArray n)
   ⟨e,rfl,⟨_,e,rfl⟩,jf F.slot_list_mul ⟨_,e,rfl⟩ F.entry_list_mul (F.args_list_mul_2 _ _) (AutoListH.list___mul___list_int_3 l ar.toArray n k t Tn yG OK) ⟨e,?_⟩⟩)
 rw[l5];exact⟨.ref _,_,I.OI (t':=s.toks) (r.rep k.toNat) (by rw[nL,Nat.mul_comm];exact hz),rfl,q _ I.fresh⟩
end
end L2
namespace Wd
open PySem PySem.W PySem.Calls PyProof.Rows
theorem jU{P:Params}{h:Heap}:∀(ns:List Int)(vs:List Value),WellAll P h vs (ns.map WData.int)->IntsAre vs ns:=by
 intro ns
 induction ns with
 | nil =>
  intro vs w;rw[m_]at w;cases w;exact .nil
 | cons n ns ih =>
  intro vs w;rw[d_]at w
  cases w with
  | cons a b =>
   cases a;exact .cons _ _ (ih _ b)
theorem vp{l:OpenLaw}{n:Nat}(hn:l.most=some n){P:Params}{h:Heap}{args:List WData}{vals:List Value}(BV:l.row.toRowW.claim.pre args=true)(Ft:WellAll P h vals args):∃a vs ns,vals=[Value.ref a]/\args=[WData.list (ns.map WData.int)]/\h.get? a=some {cls:=.type "list",data:=.seq vs.toArray}/\IntsAre vs ns/\ns.length<=n:=by
 have X5:WShape.hasAll [] args [.list .int]=true:=(pre_splitW BV).1;have hc:l.pre.holds [] {args:=args}=true:=(pre_splitW BV).2;obtain⟨d,r,rfl,h1,h2⟩:=hasAllW_cons X5;obtain rfl:=hasAllW_nil h2;obtain⟨xs,rfl,h3⟩:=hasW_list h1;obtain⟨ns,rfl⟩:=items_int h3
 have bS:ns.length<=n:=by
  unfold OpenLaw.pre at hc
  have h4:(WTm.not (.lt (.lit (.int (n:Int))) (.len (.arg 0)))).holds [] {args:=[.list (ns.map .int)]}=true:=by
   have h4:=(holds_andW hc).1;rw[hn]at h4;exact h4
  have h5:=condW_of h4 (w_not (w_lt w_lit (w_len_list (w_arg rfl))));rw[aR]at h5;refine Nat.le_of_not_lt λq=>?_;have q':(n:Int)<((ns.length:Nat):Int):=∅
  first
   | (rw[dE q']at h5;exact absurd h5 (by decide))
   | (simp at h5;omega)
 cases Ft with
 | cons w1 w2 =>
  cases w2
  cases w1 with
  | list ho HH=>exact⟨_,_,ns,rfl,rfl,ho,jU ns _ HH,bS⟩
theorem vq(l:OpenLaw)(args:List WData):l.row.toRowW.claim.post args (.bool true) args=true :=
 postW_of (r:=l.row.toRowW) (X:=(true==true))
  (show WShape.has [] (.bool true) .bool=true by first | rfl | decide | simp[WShape.has,WShape.arms,WShape.armsAll])
  (show(WTm.eq .res (.lit (.bool true))).value [] {args:=args,res:=some (.bool true),after:=args}=some (.bool (true==true)) from w_eq_bool (w_res rfl) w_lit) rfl
theorem pw {l : OpenLaw} {n : Nat} {q : Program} {loose : List Str} {XP : (Str -> Option Value) -> Heap -> Prop} {YP : World -> Heap -> Prop} {d : DefRec}
    (hn:l.most=some n) (OL:d.params.defaults=[])
    (call:∀(w:World)(dI bI:Shared)(mg mb:Str->Option Value)(fa:Addr)(o:Obj)(pm cd doc:Value)(a:Addr)(vs:List Value)(ns:List Int),
      Ground q loose [] XP w dI mg mb bI.heap->YP w bI.heap ->
      bI.heap.get? fa=some o->o.data=.func (docDef d.name d.params d.body d.scope pm cd doc)->bI.heap.CodeRec cd d.name->mg d.name=some (.ref fa) ->
      bI.heap.get? a=some {cls:=.type "list",data:=.seq vs.toArray}->IntsAre vs ns->ns.length<=n->bI.gens=#[] ->
      codeAny (model l.prog w) callerA (.call (.ref fa) ⟨[.ref a],[]⟩) (λr s'=>r=.ok (.ret (.bool true))/\OldK bI.heap s'.heap/\s'.os=bI.os/\AllBare s'.gens) bI) :
    WalkO q loose XP YP l.row.toRowW d [] (λf vs=>PySem.call f vs):=by
  intro w dI bI mg mb G Y fa o pm cd doc dV kV ho hd AK hD OM hg args vals as BV X6 vt Ft hlo;obtain rfl:dV=.none:=Dflts.none hD OL;obtain rfl:kV=.none:=Dflts.noKw hD;obtain⟨a,vs,ns,rfl,rfl,HV,hints,bS⟩:=vp hn BV Ft;refine enter_call (codeAny_mono (call w dI bI mg mb fa o pm cd doc a vs ns G Y ho (fd_plain hd) AK OM HV hints bS hg) λr s' hq=>?_);obtain⟨rfl,h2,h3,h4⟩:=hq;exact⟨.inl ⟨.bool true,.bool true,[],rfl,λ_=>rfl,.bool true,vq l _,λ_=>⟨List.Pairwise.nil,λ_ hm=>(nomatch hm)⟩⟩,h2,h3,h4⟩
end Wd
namespace L2
open PySem PySem.Spec PyProof.Rows
theorem mD:∀{vs:List Value}{ns:List Int},IntsAre vs ns->aE (ns.map V.int) vs
 | _,_,.nil=>.nil
 | _,_,.cons n t h=>.cons ⟨t,rfl⟩ (mD h)
noncomputable def BW(H:Hp):Prop:=∀b,H b=none\/∃o xs,H b=some (.fP o (.lst xs))
theorem yH{P:Program}{w:World}{K:PySem.W.Frag}{mg mb:Str->Option Value}{CX:vd}{k:Nat}{fa a:Addr}{fd:FuncData}{x:Str}{sp:Sp}{bI:Shared}{vs:List Value}{ns:List Int}(KX:K.In bI.heap)(kG:bI.heap.Ns mainGlobals mg)(hb:bI.heap.Ns builtinsNs mb) (X7:∀x:Str,x≠ "__name__" -> mb x=bootBuiltins x) (To:bI.heap.NoLimit) (hg:bI.gens=#[]) (ha:bI.heap.get? a=some {cls:=.type "list",data:=.seq vs.toArray}) (hi:IntsAre vs ns) (hl:ns.length<=sizeLine) (hr:gZ k callerA) (F:∀base:Heap,K.In base->base.Ns mainGlobals mg->fR P w K mg base CX k fa fd [x] sp) (ON:∀(s:Shared)(u:Value),BindsTo s fd ⟨[u],[]⟩ [(x,u)]) (Fp:∀H:Hp,BW H->eF K H a (ns.map V.int)->sp [.ref a] H (λv _=>v=.bl true) λ_ _ _=>False) (Tp:∀H e s',CX [] H bI (λ_ _ _=>False) e s'->False):codeAny (model P w) callerA (.call (.ref fa) ⟨[.ref a],[]⟩) (λr s'=>r=.ok (.ret (.bool true))/\OldK bI.heap s'.heap/\s'.os=bI.os/\AllBare s'.gens) bI:=by
  have rv:=mD hi;have Tq:=hi.length
  have core : ∀ H : Hp, BW H -> eF K H a (ns.map V.int) -> gO P w H bI.heap -> (∀ b, H b ≠ none -> b = a) -> (H a ≠ none -> K.lookup a = none) ->
      codeAny (model P w) callerA (.call (.ref fa) ⟨[.ref a],[]⟩) (λr s'=>r=.ok (.ret (.bool true))/\OldK bI.heap s'.heap/\s'.os=bI.os/\AllBare s'.gens) bI:=by
    intro H hO hS bY hA hK;have gz:∀{b:Addr}{o:Obj},bI.heap.get? b=some o->H b=none->(nj bI.heap H).get? b=some o:=λe n=>xO e n
    have Oq:∀{b:Addr}{o:Obj}{es:Array DictEntry}{ep:Nat},bI.heap.get? b=some o->o.data=.dict es ep->H b=none:=λ{b o es ep} e d=>by
      cases q:H b with
      | none=>rfl
      | some u =>
        have e':b=a:=hA b (by rw[q];simp);subst e';rw[ha]at e;cases e;have d':Data.seq vs.toArray _=Data.dict es ep:=d;cases d'
    have Ro:∀{b:Addr}{m:Str->Option Value},bI.heap.Ns b m->(nj bI.heap H).Ns b m:=λ{b m} ⟨o,es,ep,e,d,r⟩=>⟨o,es,ep,gz e (Oq e d),d,r⟩
    have We:K.In (nj bI.heap H):=λb o e=>gz (KX b o e) (by
      cases q:H b with
      | none=>rfl
      | some u =>
        have e':b=a:=hA b (by rw[q];simp);subst e';rw[hK (by rw[q];simp)]at e;cases e)
    have hM:Mod K mg (nj bI.heap H):=⟨We,Ro kG,⟨mb,Ro hb,X7⟩,let ⟨mc,h1,h2⟩:=To;⟨mc,Ro h1,h2⟩⟩;have e0:yc P w K mg (nj bI.heap H) callerA [] bI H:=⟨rfl,hM,λb o e=>Bq e,na (uW _ _),trivial,λb hb=>absurd (show b∈([]:List Addr) from hb) (by simp),bY,.of_eq hg⟩;refine codeAny_mono ((F _ We (Ro kG)).run callerA [] bI H ⟨[.ref a],[]⟩ [.ref a] [.ref a] _ _ hr e0 (ON bI (.ref a)) (.cons rfl .nil) (Fp H hO hS)) λr s' h=>?_
    cases r with
    | error e=>exact(Tp H e s' h).elim
    | ok fl =>
      cases fl with
      | next=>exact False.elim h
      | brk=>exact False.elim h
      | cont=>exact False.elim h
      | ret u =>
        obtain⟨v,H',os,bare,un,Tr,r',q⟩:=h;have q':v=.bl true:=q;subst q';obtain rfl:u=Value.bool true:=r';refine⟨rfl,OldK.of_keep λb o e=>?_,os,bare⟩
        cases q:H b with
        | none=>exact un.keep b o e q (by intro z;exact absurd (show b∈([]:List Addr) from z) (by simp)) (by simp)
        | some u =>
          rcases hO b with z | ⟨ob,xs,z⟩
          · rw[q]at z;cases z
          · have z2:=un.ni b ob _ z;obtain⟨e1,_⟩:=bY b _ z;obtain⟨e2,_⟩:=Tr b _ z2;rw[e]at e1;cases e1;exact e2
  cases hk:K.lookup a with
  | some o =>
    have e:=KX a o hk;rw[ha]at e;cases e;refine core (λ_=>none) (λ_=>.inl rfl) (.inr ⟨_,vs.toArray,_,hk,rfl,rfl,rfl,by rw[cB,Tq];exact hl,by simpa using rv⟩) (λb u z=>by have z':(none:Option HO)=some u:=z;cases z') (λb z=>absurd rfl z) λz=>absurd rfl z
  | none =>
    refine core (λb=>if b=a then some (.fP {cls:=.type "list",data:=.seq vs.toArray} (.lst (ns.map V.int))) else none) (λb=>?_) (.inl (.inr ⟨{cls:=.type "list",data:=.seq vs.toArray},aG rfl⟩)) (λb u z=>?_) (λb z=>?_) λ_=>hk
    · by_cases hb:b=a
      · exact .inr ⟨_,_,aG hb⟩
      · exact .inl (aT hb)
    · by_cases hb:b=a
      · have z':=(aG hb).symm.trans z;cases z';subst hb;exact⟨ha,by rw[aR];exact hl,vs,_,rv,ha⟩
      · have z':=(aT hb).symm.trans z;cases z'
    · by_cases hb:b=a
      · exact hb
      · exact absurd (aT hb) z
theorem BX {l : PySem.W.OpenLaw} {n k : Nat} {q : Program} {loose : List Str} {XP : (Str -> Option Value) -> Heap -> Prop} {YP : World -> Heap -> Prop} {d : DefRec} {K : Params -> PySem.W.Frag} {CX : World -> vd} {sp : World -> Sp} {x : Str}
    (hn:l.most=some n) (X8:n<=sizeLine) (OL:d.params.defaults=[]) (hr:gZ k callerA)
    (hY:∀(w:World)(h:Heap),YP w h->(K w.params).In h)
    (F:∀(w:World)(mg:Str->Option Value)(fa:Addr)(h:Heap),(K w.params).In h->h.Ns mainGlobals mg->mg d.name=some (.ref fa) ->
      ∃fd:FuncData,(∀(s:Shared)(u:Value),BindsTo s fd ⟨[u],[]⟩ [(x,u)]) /\
        ∀base:Heap,(K w.params).In base->base.Ns mainGlobals mg->fR l.prog w (K w.params) mg base (CX w) k fa fd [x] (sp w))
    (Fp:∀(w:World)(H:Hp)(a:Addr)(ns:List Int),ns.length<=n->BW H->eF (K w.params) H a (ns.map V.int)->sp w [.ref a] H (λv _=>v=.bl true) λ_ _ _=>False)
    (Tp:∀(w:World)(H:Hp)(s:Shared)(e:Value)(s':Shared),CX w [] H s (λ_ _ _=>False) e s'->False) :
    PySem.W.WalkO q loose XP YP l.row.toRowW d [] (λf vs=>PySem.call f vs):=by
  refine Wd.pw hn OL λw dI bI mg mb fa o pm cd doc a vs ns G Y ho hd AK OM HV hints bS hg=>?_;have KX:=hY w _ Y;obtain⟨fd,hb,hF⟩:=F w mg fa _ KX G.T.g OM;exact yH KX G.T.g G.T.b G.T.builtins G.T.nolimit hg HV hints (fh bS X8) hr hF hb (λH hO hS=>Fp w H a ns bS hO hS) λH e s'=>Tp w H bI e s'
abbrev Rp:vd:=λ_ _ _ _ _ _=>False
abbrev E0:XK:=λ_ _ _=>False
structure Wg (K:PySem.W.Frag) (x qual:Str) (st:Stmt) (f:Addr) (fd:FuncData):Prop where
 ex:∃(oc:Value) (od:Option Addr) (kV doc pm:Value) (an:Option Addr) (pe ct:Value) (pf:Array (Option Value)),
  fd=PySem.W.fnOf x qual (gx st) (cR st) (a_ st) .none kV doc pm an pe ct/\K.lookup f=some ⟨oc,od,.func fd,pf⟩/\PySem.W.codeIn K pe qual=true
 kp:PySem.W.keepIn K (.ref f)=true
section
variable {P:Program} {w:World} {K:PySem.W.Frag} {mg:Str->Option Value} {base:Heap}
theorem yI{x qual:Str}{st:Stmt}{f:Addr}{oc:Value}{od an:Option Addr}{pf:Array (Option Value)}{kV doc pm pe ct:Value}(l:K.lookup f=some ⟨oc,od,.func (PySem.W.fnOf x qual (gx st) (cR st) (a_ st) .none kV doc pm an pe ct),pf⟩)(c:PySem.W.codeIn K pe qual=true)(k:PySem.W.keepIn K (.ref f)=true):Wg K x qual st f (PySem.W.fnOf x qual (gx st) (cR st) (a_ st) .none kV doc pm an pe ct):=⟨⟨oc,od,kV,doc,pm,an,pe,ct,pf,rfl,l,c⟩,k⟩
end
end L2
end
section
namespace L2
open PySem PySem.Spec PyProof.Rows
section
variable {prog:Program} {w:World} {A:Around} {R:Result->Shared->Prop} {s:Shared}
theorem nM {elt jh aD : Expr} {ifs : List Expr} {scope : Scope} {pos : Pos} {it aA : Value} {env : Env} (I : Nat -> Shared -> Prop)
    (x6:∀n s,I n s->wpAny (model prog w) A (pyNext it) (λr bI=>match r with
      | none=>R (.ok .next) bI
      | some v => wpAny (model prog w) A (letOwnedTupleGo jh it v) (fun _ Fv => wpAny (model prog w) A (assign jh env v) (fun _ nB =>
          wpAny (model prog w) A (forIn ifs true λc r=>if r=true then do let ok <- isTrue c env (eval c env);pure (ForInStep.yield ok) else pure (ForInStep.yield r)) (λok pk =>
            if ok=true then wpAny (model prog w) A (eval elt env) (λx vv =>
              wpAny (model prog w) A (call (.builtin "list.append") [aA,x]) (λ_ yJ=>∃m,m<n/\I m yJ) (λ_ _=>False) vv) (λ_ _=>False) pk
            else ∃m,m<n/\I m pk) (λ_ _=>False) nB) (λ_ _=>False) Fv) (λ_ _=>False) bI) (λ_ _=>False) s)
    (n:Nat) (h:I n s):codeAny (model prog w) A (.compLoop (.ListComp elt [⟨jh,aD,ifs,0⟩] scope pos) 0 it aA env) R s:=by
  refine codeAny_loop rfl I (λn s hI=>?_) n h;show wpAny _ A ((compTurn (.ListComp elt [⟨jh,aD,ifs,0⟩] scope pos) 0 it aA env).onRaise (λx=>do noteFrame x env;theTreesLotGoes x)) _ _ s;refine wpAny_noted ?_;rw[compTurn_list];refine ai (wpAny_standAt (ai (je (x6 n s hI) (λr bI vm=>?_) λ_ _ h'=>h'.elim)))
  cases r with
  | none=>exact bg vm
  | some v =>
    refine ai (je vm (λ_ Fv OO=>?_) λ_ _ h'=>h'.elim);refine ai (je OO (λ_ nB yp=>ai (je yp (λok pk BG=>?_) λ_ _ h'=>h'.elim)) λ_ _ h'=>h'.elim)
    cases ok with
    | false=>exact bg ⟨rfl,BG⟩
    | true =>
      exact ai (ai (je BG (λx vv Ts=>ai (je Ts (λ_ yJ Tt=>bg (bg ⟨rfl,Tt⟩)) λ_ _ h'=>h'.elim)) λ_ _ h'=>h'.elim))
end
theorem cq{x:Str}:∀(names:List (Str×NameKind))(n:Nat)(aA:List (Str×Addr)),(x,NameKind.cell)∉names->(cellsFrom n names aA).lookup x=aA.lookup x
 | [],_,_,_=>rfl
 | (y,k)::r,n,aA,h=>by
  unfold cellsFrom;split
  ·rename_i hk
   have hk:k=.cell:=eq_of_beq hk;subst hk;rw[cq r (n+1) _ (λz=>h (cZ _ z)),eK];have:(x==y)=false:=m7.mpr λz=>h (by subst z;exact cG);rw[this]
  ·exact cq r n aA λz=>h (cZ _ z)
theorem eW{x:Str}{c:Addr}:∀(names:List (Str×NameKind))(n:Nat)(aA:List (Str×Addr)),(x,NameKind.cell)∈names->(cellsFrom n names aA).lookup x=some c->n<=c
 | [],_,_,h,_=>by cases h
 | (y,k)::r,n,aA,h,e=>by
  unfold cellsFrom at e;split at e
  ·by_cases hr:(x,NameKind.cell)∈r
   ·exact wz (eW r (n+1) _ hr e)
   ·rw[cq r (n+1) _ hr,eK]at e
    have:x=y:=by
     rcases bw.mp h with z | z
     ·exact(Prod.mk.inj z).1
     ·exact absurd z hr
    subst this;simp at e;exact na e
  ·rename_i hk
   rcases bw.mp h with z | z
   ·exact absurd (by rw[<- (Prod.mk.inj z).2];rfl) hk
   ·exact eW r n aA z e
theorem eX{x:Str}:∀(names:List (Str×NameKind))(n:Nat)(aA:List (Str×Addr)),(x,NameKind.cell)∈names->∃c,(cellsFrom n names aA).lookup x=some c
 | [],_,_,h=>by cases h
 | (y,k)::r,n,aA,h=>by
  unfold cellsFrom;split
  ·by_cases hr:(x,NameKind.cell)∈r
   ·exact eX r (n+1) _ hr
   ·rw[cq r (n+1) _ hr,eK]
    have:x=y:=by
     rcases bw.mp h with z | z
     ·exact(Prod.mk.inj z).1
     ·exact absurd z hr
    subst this;simp
  ·rename_i hk
   rcases bw.mp h with z | z
   ·exact absurd (by rw[<- (Prod.mk.inj z).2];rfl) hk
   ·exact eX r n aA z
theorem eY:∀(names:List (Str×NameKind))(n:Nat)(aA:List (Str×Addr)),(∀x c,aA.lookup x=some c->c<n)->(∀x y c,aA.lookup x=some c->aA.lookup y=some c->x=y)->∀x y c,(cellsFrom n names aA).lookup x=some c->(cellsFrom n names aA).lookup y=some c->x=y
 | [],_,_,_,h=>h
 | (z,k)::r,n,aA,hb,h=>by
  unfold cellsFrom;split
  ·refine eY r (n+1) _ (λx c e=>?_) (λx y c e1 e2=>?_)
   ·rw[eK]at e;split at e
    ·cases e;exact uN _
    ·exact Bj (hb x c e)
   ·rw[eK]at e1 e2;split at e1
    ·rename_i hx
     cases e1;split at e2
     ·rename_i hy
      rw[eq_of_beq hx,eq_of_beq hy]
     ·exact absurd (hb y _ e2) (jO _)
    ·split at e2
     ·cases e2;exact absurd (hb x _ e1) (jO _)
     ·exact h x y c e1 e2
  ·exact eY r n aA hb h
theorem eo{x:Str}{c:Addr}:∀(names:List (Str×NameKind))(h:Heap)(aA:List (Str×Addr)),(cellsFrom h.objs.size names aA).lookup x=some c->aA.lookup x=some c\/(h.objs.size<=c/\(pushCells h names).IsCell c none)
 | [],_,_,e=>.inl e
 | (z,k)::r,h,aA,e=>by
  unfold cellsFrom at e;unfold pushCells;split at e
  ·rename_i hk
   rw[aG hk];have e':(cellsFrom (h.push {cls:=.type "cell",data:=.cell none}).objs.size r ((z,h.objs.size)::aA)).lookup x=some c:=by rw[kc];exact e
   rcases eo r (h.push {cls:=.type "cell",data:=.cell none}) _ e' with q | ⟨q1,q2⟩
   ·rw[eK]at q;split at q
    ·cases q;exact .inr ⟨a7 _,_,pushCells_keeps _ _ _ _ (d5 _ rfl),rfl⟩
    ·exact .inl q
   ·rw[kc]at q1;exact .inr ⟨wz q1,q2⟩
  ·rename_i hk
   rw[aT hk];exact eo r h aA e
theorem nN {M : Model} {A : Around} {E : Value -> Shared -> Prop} {s : Shared} {scope : Scope} {globals : Addr} {cl : List (Str × Addr)} {qual : Str} {outer : Env} {Q : Env -> Shared -> Prop}
    (hQ:Q {scope:=scope,locals:=s.heap.objs.size,globals:=globals,cells:=cellsFrom (s.heap.objs.size+1) scope.names cl,qual:=qual,func:=none,code:=outer.code,frame:=outer.frame,builtins:=outer.builtins}
      {s with heap:=pushCells (s.heap.push {cls:=.type "dict",data:=.dict #[]}) scope.names}) :
    wpAny M A (newFunctionEnv scope globals cl [] qual none .none (some outer)) Q E s:=by
  simp only[newFunctionEnv,Option.isSome_some,fO];refine ai (wpAny_alloc ?_);refine ai (wpAny_layCells _ (λname kind cells=>by cases X9:kind==NameKind.cell<;>simp[X9]) _ _ _ _ ?_);rw[show({s with heap:=s.heap.push {cls:=.type "dict",data:=.dict #[]}}:Shared).heap.objs.size=s.heap.objs.size+1 from kc ..];rw[wH];exact ai (bg (bg hQ))
noncomputable def Cx.block(X:Cx)(scope:Scope)(cl:List (Str×Addr))(C:Addr)(N':List Str)(s:Shared)(H:Hp)(fp:List Addr)(pn:List (Addr×Obj)):Cx :=
 {X with N:=N',dI:=s,H₀:=H,env:=compEnvC scope (cellsFrom (C+1) scope.names cl) C X.env,outer:=X.stack,ex:=fp,fn:=λx=>scope.names.lookup x==some .cell,pn:=pn,xe:=λ_ _=>False}
structure HW (X:Cx) (scope:Scope) (cl:List (Str×Addr)):Prop where
 is:closureFor scope X.env=pure cl
 sub:∀x c,cl.lookup x=some c->X.env.cells.lookup x=some c
 has:∀x,scope.names.lookup x=some .free->∃c,cl.lookup x=some c
theorem da {env : Env} : ∀ {names : List (Str × NameKind)} {x : Str} {k : NameKind}, names.lookup x = some k ->
    (names.map λ(n,k)=>if (k==NameKind.free&&env.scope.kind == .function&&env.kindOf n==some .cell) then (n,NameKind.cell) else (n,k)).lookup x =
      some (if (k==NameKind.free&&env.scope.kind == .function&&env.kindOf x==some .cell) then .cell else k)
  | [],_,_,h=>by simp at h
  | (n,k')::r,x,k,h=>by
    have ih:=@da env r x k;show List.lookup x ((if (k'==NameKind.free&&env.scope.kind == .function&&env.kindOf n==some .cell)=true then (n,NameKind.cell) else (n,k'))::_)=_
    cases hx:x==n with
    | true =>
      simp only[eK,hx]at h;cases h;have e:x=n:=by simpa using hx
      subst e;split<;>simp[eK]
    | false =>
      simp only[eK,hx]at h;by_cases hc:(k'==NameKind.free&&env.scope.kind == .function&&env.kindOf n==some .cell)=true
      · rw[aG hc];simp only[eK,hx];exact ih h
      · rw[aT hc];simp only[eK,hx];exact ih h
theorem g7 {env : Env} : ∀ {names : List (Str × NameKind)} {x : Str} {k : NameKind},
    (names.map λ(n,k)=>if (k==NameKind.free&&env.scope.kind == .function&&env.kindOf n==some .cell) then (n,NameKind.cell) else (n,k)).lookup x=some k ->
      ∃k',names.lookup x=some k'/\k=(if (k'==NameKind.free&&env.scope.kind == .function&&env.kindOf x==some .cell) then .cell else k')
  | names,x,k,h=>by
    cases q:names.lookup x with
    | some k' =>
      have:=da (env:=env) q;rw[this]at h;exact⟨k',rfl,(cH h).symm⟩
    | none =>
      exfalso
      induction names with
      | nil=>simp at h
      | cons a r ih =>
        obtain⟨n,k'⟩:=a
        cases hx:x==n with
        | true=>simp[eK,hx]at q
        | false =>
          simp only[eK,hx]at q;have h':List.lookup x ((if (k'==NameKind.free&&env.scope.kind == .function&&env.kindOf n==some .cell)=true then (n,NameKind.cell) else (n,k'))::(r.map λ(n,k)=>if (k==NameKind.free&&env.scope.kind == .function&&env.kindOf n==some .cell) then (n,NameKind.cell) else (n,k)))=some k:=h;by_cases hc:(k'==NameKind.free&&env.scope.kind == .function&&env.kindOf n==some .cell)=true
          · rw[aG hc]at h';simp only[eK,hx]at h';exact ih h' q
          · rw[aT hc]at h';simp only[eK,hx]at h';exact ih h' q
noncomputable def iu(cx:List (Option Nat))(σ:St):St:=cx.map λo=>o.bind λj=>(σ[j]?).join
structure yK (X:Cx) (scope:Scope) (N':List Str) (cx:List (Option Nat)):Prop where
 len:cx.length=N'.length
 out:∀(i j:Nat)(x:Str),cx[i]?=some (some j)->N'[i]?=some x->X.N[j]?=some x/\scope.names.lookup x=some .free/\(X.env.kindOf x=some .cell\/X.env.kindOf x=some .free)
section
variable {X:Cx} {pins:List (Addr×Obj)} {σ:St} {H:Hp} {s:Shared} {scope:Scope} {cl:List (Str×Addr)} {N':List Str} {cx:List (Option Nat)} {fp:List Addr}
theorem px{h1:Heap}(I:Inv X pins σ H s)(yg:scope.kind=.function)(ko:∀y∈scope.names,y.2=.cell->scope.names.lookup y.1=some .cell)(cs:HW X scope cl)(co:yK X scope N' cx)(hf:∀b∈fp,jS X pins H b)(ho:∀b∈fp,b<s.heap.objs.size)(kG:h1.Ns s.heap.objs.size (λ_=>none))(hk:∀b u,s.heap.get? b=some u->h1.get? b=some u)(l5:∀x c,(cellsFrom (s.heap.objs.size+1) scope.names cl).lookup x=some c->cl.lookup x=some c\/(s.heap.objs.size+1<=c/\h1.IsCell c none))(tk:Nat):Inv (X.block scope cl s.heap.objs.size N' s H fp []) [] (iu cx σ) H {s with heap:=h1,toks:=tk}:=by
 have I1:Inv X pins σ H {s with heap:=h1,toks:=tk}:=I.kept hk
 have Fc:∀x c,cl.lookup x=some c->c<s.heap.objs.size:=λx c e=>by
  obtain⟨v,q⟩:=I.cell x c (cs.sub x c e);exact q.lt
 have fr:H s.heap.objs.size=none:=I.bY.fresh (a7 _)
 have same:∀x,scope.names.lookup x=some .free->(cellsFrom (s.heap.objs.size+1) scope.names cl).lookup x=cl.lookup x:=λx hx =>
  cq _ _ _ λz=>by have:=ko _ z rfl;rw[hx]at this;cases this
 refine⟨⟨I.ok.mod,yg,I.ok.glob,I.ok.blt,a7 _,eY _ _ _ (λx c e=>Bj (Fc x c e)) (λx y c a b=>I.ok.inj x y c (cs.sub _ _ a) (cs.sub _ _ b)),λx hx=>?_,λx c z e=>?_,I.ok.hd,I.ok.frames,.inl rfl,λb hb=>⟨?_,λx c e=>?_⟩,λb o e=>I.bs b o e,
  fh I.ok.Br I.sz,λb o e hb=>?_,λb hb X_=>?_,I.stack,I.sM⟩,rfl,I.bare,Un.kept hk,⟨_,kG,λi x v e1 e2 e3=>?_⟩,λx c e=>?_,fr,λx c e=>?_,λp hp=>?_,I.bY.kept hk,?_⟩
 ·have hx:(relabel scope X.env).names.lookup x=some .cell\/(relabel scope X.env).names.lookup x=some .free:=hx
  have mE:∃k',scope.names.lookup x=some k'/\(k'=.free\/k'=.cell):=by
   have go:∀k,(k=.cell\/k=.free)->(relabel scope X.env).names.lookup x=some k->∃k',scope.names.lookup x=some k'/\(k'=.free\/k'=.cell):=by
    intro k hk hx;obtain⟨k',e,ek⟩:=g7 hx;refine⟨k',e,?_⟩;by_cases z:k'=.free
    ·exact .inl z
    ·rw[aT (by cases k'<;>first | exact absurd rfl z | simp)]at ek;subst ek;rcases hk with hk | hk
     ·exact .inr hk
     ·exact .inl hk
   rcases hx with hx | hx
   ·exact go _ (.inl rfl) hx
   ·exact go _ (.inr rfl) hx
  obtain⟨k',e,BY⟩:=mE;show ∃c,(cellsFrom (s.heap.objs.size+1) scope.names cl).lookup x=some c;rcases BY with z | z
  ·subst z;rw[same x e];exact cs.has x e
  ·subst z;exact eX _ _ _ (j9 e)
 ·have z:(scope.names.lookup x==some .cell)=true:=z;have z:scope.names.lookup x=some .cell:=eq_of_beq z;exact wz (eW _ _ _ (j9 z) e)
 ·exact fg (ho b hb)
 ·rcases l5 x c e with q | ⟨q,_⟩
  ·exact(hf b hb).2.2.2.2.1 x c (cs.sub x c q)
  ·have OP:=ho b hb;intro z;rw[z]at q;exact absurd OP (Nat.not_lt_of_le (wz q))
 ·rcases(hf b hb).2.2.2.1 with z | z
  ·exact I.ok.uX b o e z
  ·have h1:=cg e;have h2:=I.ok.Br;exact absurd (fc h1 (fh h2 z)) (jO _)
 ·rcases bw.mp (I.qN b X_)with z | z
  ·exact(hf b hb).2.1 z
  ·exact(hf b hb).2.2.1 z
 ·have e1:N'[i]?=some x:=e1;unfold iu at e2;rw[ff]at e2
  cases q:cx[i]? with
  | none=>rw[q]at e2;cases e2
  | some oj =>
   rw[q]at e2
   cases oj with
   | none=>cases e2
   | some j =>
    have OQ:(σ[j]?).join=some v:=cH e2
    have Tu:σ[j]?=some (some v):=by
     cases r:σ[j]? with
     | none=>rw[r]at OQ;cases OQ
     | some ov=>rw[r]at OQ;cases ov with
      | none=>cases OQ
      | some z=>cases OQ;rfl
    obtain⟨o1,o2,o3⟩:=co.out i j x q e1;obtain⟨m,hn,hl⟩:=I1.loc;obtain⟨u,r,l⟩:=hl j x v o1 Tu (o3.elim (λz=>.inr (.inl z)) λz=>.inr (.inr z));refine⟨u,r,.inr ⟨?_,?_⟩⟩
    ·show(relabel scope X.env).names.lookup x=some .cell\/(relabel scope X.env).names.lookup x=some .free;rw[show(relabel scope X.env).names.lookup x=_ from da o2];split
     ·exact .inl rfl
     ·exact .inr rfl
    ·obtain⟨c,hc⟩:=cs.has x o2;have oY:=cs.sub x c hc;rcases l with⟨BY,hm⟩|⟨_,c2,AM,HX⟩
     ·exfalso;rw[BY]at o3;rcases o3 with o3 | o3<;>cases o3
     ·rw[oY]at AM;cases AM;exact⟨c,(same x o2).trans hc,HX⟩
 ·rcases l5 x c e with q | ⟨_,q⟩
  ·exact I1.cell x c (cs.sub x c q)
  ·exact⟨none,q⟩
 ·rcases l5 x c e with q | ⟨q,_⟩
  ·exact I1.fW x c (cs.sub x c q)
  ·exact I.bY.fresh (wz q)
 ·exact absurd (show p∈([]:List (Addr×Obj)) from hp) (by simp)
 ·show(iu cx σ).length=N'.length;unfold iu;rw[aR];exact co.len
end
noncomputable def Tv:Option TT->TT
 | none=>λ_ H Q=>Q true H
 | some t=>t
def rl(cx:List (Option Nat))(g:TG)(tc:Option TT)(te:TE)(σ:St)(J:It)(H1:Hp)(Q:V->Hp->Prop):Prop :=
 ∀D,H1 D=none->∃W:Nat->Nat->St->Hp->List V->Prop,(∃m,W 0 m (iu cx σ) (bH H1 D (.lst [])) []) /\
  ∀i m τ H ys,W i m τ H ys->H D=some (.lst ys)/\((J.stop i H/\Q (.ref D) H) \/
   (J.go i H/\ys.length<sizeLine/\∀x H',J.N7 i H x H'->g x τ H' λAN H2=>Tv tc AN H2 λb H3 =>
    if b=true then te AN H3 λv H4=>H4 D=some (.lst ys)/\∃m',m'<m/\W (i+1) m' AN (bH H4 D (.lst (ys++[v]))) (ys++[v])
    else ∃m',m'<m/\W (i+1) m' AN H3 ys))
def sV(cx:List (Option Nat))(wi:TI)(g:TG)(tc:Option TT)(te:TE):TE:=λσ H Q=>wi σ H λJ H1=>rl cx g tc te σ J H1 Q
def OR(X:Cx)(scope:Scope)(N':List Str)(cl:List (Str×Addr))(ifs:List Expr):Option TT->Prop
 | none=>ifs=[]
 | some t=>∃c,ifs=[c]/\∀C s H fp,PT (X.block scope cl C N' s H fp []) c t
structure jn (X:Cx) (scope:Scope) (N':List Str) (cx:List (Option Nat)) (cl:List (Str×Addr)) (tg elt:Expr) (ifs:List Expr) (g:TG) (tc:Option TT) (te:TE):Prop where
 kind:scope.kind=.function
 HY:∀y∈scope.names,y.2=.cell->scope.names.lookup y.1=some .cell
 names:∀y∈scope.names,y.2=.local->scope.names.lookup y.1=some .local
 HZ:HW X scope cl
 Tw:yK X scope N' cx
 tg:∀C s H fp,PG (X.block scope cl C N' s H fp []) tg g
 ifs:OR X scope N' cl ifs tc
 elt:∀C s H fp,PE (X.block scope cl C N' s H fp []) elt te
section
variable {X:Cx} {scope:Scope} {N':List Str} {cx:List (Option Nat)} {cl:List (Str×Addr)} {tg elt aD:Expr} {ifs:List Expr} {g:TG} {tc:Option TT} {te:TE} {pos:Pos}
theorem pz {pins : List (Addr × Obj)} {s2 : Shared} {σ : St} {H2 : Hp} {it : Addr} {fp : List Addr} {tn : Nat -> Heap -> Prop} {J : It} {E : Value -> Shared -> Prop} {Q : V -> Hp -> Prop} {RR : Value -> Addr -> Result -> Shared -> Prop}
    (hc:X.calm=true) (ck:jn X scope N' cx cl tg elt ifs g tc te) (I2:Inv X pins σ H2 s2) (T:qP X.prog X.w X.K tg J fp it tn) (jW:tn 0 s2.heap) (f2:∀b∈fp,jS X pins H2 b) (h:rl cx g tc te σ J H2 Q)
    (Yb:∀(D C:Addr)(H':Hp)(s':Shared)(m:Str->Option Value),Inv X pins σ H' s'->s'.heap.Ns C m->H' C=none->X.dI.heap.objs.size<=C->C≠X.env.locals->C∉X.fs->(∀x c,X.env.cells.lookup x=some c->c≠C)->(∀p∈X.pn++pins,p.1≠C)->Q (.ref D) H'->RR (.ref D) C (.ok .next) s') :
    wpAny (model X.prog X.w) X.A (newList []) (λaA pk=>wpAny (model X.prog X.w) X.A (newFunctionEnv scope X.env.globals cl [] X.env.qual none .none (some X.env)) (λOS vv =>
      codeAny (model X.prog X.w) X.A (.compStart (.ListComp elt [⟨tg,aD,ifs,0⟩] scope pos) 0 (.ref it) aA {OS with scope:=relabel scope X.env}) (RR aA OS.locals) vv) E pk) E s2:=by
  refine qK ?_;generalize hH:s2.heap.push {cls:=.type "list",dict:=none,data:=.seq ([]:List Value).toArray}=hh;have hD:H2 s2.heap.objs.size=none:=I2.bY.fresh (a7 _);have k3:∀b u,s2.heap.get? b=some u->hh.get? b=some u:=λb u e=>by rw[<- hH];exact bQ _ e
  have I3:Inv X pins σ (bH H2 s2.heap.objs.size (.lst [])) {s2 with heap:=hh} :=
    I2.laid (t':=s2.toks) k3 (a7 _) ⟨lX _,[],0,.nil,by rw[<- hH];exact d5 _ rfl⟩
  have f3:∀b∈fp,jS X pins (bH H2 s2.heap.objs.size (.lst [])) b:=λb hb=>by
    obtain⟨o,e,_⟩:=T.obj _ _ jW b hb;exact⟨by rw[ax (fg (cg e))];exact(f2 b hb).1,(f2 b hb).2⟩
  have b3:∀b∈fp,b<hh.objs.size:=λb hb=>by
    obtain⟨o,e,_⟩:=T.obj _ _ jW b hb;exact cg (k3 b o e)
  have Rk:tn 0 hh:=T.keep _ _ _ jW λb hb o e=>k3 b o e;obtain⟨W,⟨m0,w0⟩,x6⟩:=h s2.heap.objs.size hD;refine nN (s:={s2 with heap:=hh}) ?_;have k4:∀b u,hh.get? b=some u->(pushCells (hh.push {cls:=.type "dict",data:=.dict #[]}) scope.names).get? b=some u:=λb u e=>pushCells_keeps _ _ b u (bQ _ e);have OT:(pushCells (hh.push {cls:=.type "dict",data:=.dict #[]}) scope.names).Ns hh.objs.size (λ_=>none):=(Heap.Ns.new hh (.type "dict")).keeps (pushCells_keeps _ _)
  have l5:∀x c,(cellsFrom (hh.objs.size+1) scope.names cl).lookup x=some c->cl.lookup x=some c\/(hh.objs.size+1<=c/\(pushCells (hh.push {cls:=.type "dict",data:=.dict #[]}) scope.names).IsCell c none):=λx c e=>by
    have:=eo (x:=x) (c:=c) scope.names (hh.push {cls:=.type "dict",data:=.dict #[]}) cl (by rw[kc];exact e);rw[kc]at this;exact this
  generalize hh1:pushCells (hh.push {cls:=.type "dict",data:=.dict #[]}) scope.names=vm at k4 OT l5;have mF:tn 0 vm:=T.keep _ _ _ Rk λb hb o e=>k4 b o e;have I4:=px (tk:=s2.toks) I3 ck.kind ck.HY ck.HZ ck.Tw f3 b3 OT k4 l5;generalize hX:X.block scope cl hh.objs.size N' {s2 with heap:=hh} (bH H2 s2.heap.objs.size (.lst [])) fp []=X' at I4;have mG:X'.prog=X.prog:=by rw[<- hX];rfl
  have xw:X'.w=X.w:=by rw[<- hX];rfl
  have xK:X'.K=X.K:=by rw[<- hX];rfl
  have xA:X'.A=X.A:=by rw[<- hX];rfl
  have xc:X'.calm=true:=by rw[<- hX];exact hc
  have BZ:X'.env=compEnvC scope (cellsFrom (hh.objs.size+1) scope.names cl) hh.objs.size X.env:=by rw[<- hX];rfl
  have Rq:X'.xe=λ_ _=>False:=by rw[<- hX];rfl
  have Tz:∀{H':Hp},(∀b∈fp,H' b=none)->∀b∈fp,jS X' [] H' b:=λ{H'} hn b hb=>by
    have z:=I4.ok.Rg b (by rw[<- hX];exact hb);exact⟨hn b hb,z.1,I4.ok.uY b (by rw[<- hX];exact hb),.inl (by rw[<- hX];exact hb),z.2,λp hp=>absurd (show p∈([]:List (Addr×Obj)) by rw[<- hX]at hp;exact hp) (by simp)⟩
  have Wh:=ck.tg hh.objs.size {s2 with heap:=hh} (bH H2 s2.heap.objs.size (.lst [])) fp;have OU:=ck.ifs;have OV:=ck.elt hh.objs.size {s2 with heap:=hh} (bH H2 s2.heap.objs.size (.lst [])) fp;rw[hX]at Wh OV
  have loop : ∀ s4 : Shared, Inv X' [] (iu cx σ) (bH H2 s2.heap.objs.size (.lst [])) s4 -> tn 0 s4.heap ->
      codeAny (model X.prog X.w) X.A (.compLoop (.ListComp elt [⟨tg,aD,ifs,0⟩] scope pos) 0 (.ref it) (.ref s2.heap.objs.size) (compEnvC scope (cellsFrom (hh.objs.size+1) scope.names cl) hh.objs.size X.env)) (RR (.ref s2.heap.objs.size) hh.objs.size) s4:=by
    intro s4 I4 mF;refine nM (λn s'=>∃i τ H' ys,Inv X' [] τ H' s'/\tn i s'.heap/\(∀b∈fp,H' b=none)/\W i n τ H' ys) ?_ m0 ⟨0,_,_,[],I4,mF,λb hb=>(f3 b hb).1,w0⟩;rintro n s5 ⟨i,τ,H5,ys,I5,Le,Fi,w5⟩;obtain⟨hl5,stop | ⟨go,hz,step⟩⟩:=x6 i n τ H5 ys w5
    · have td:=T.done X' mG xw xK xc i [] s5 τ H5 (λ_ _=>False) I5 (Tz Fi) Le stop.1;rw[xA]at td;refine cj td ?_;rintro r s6 ⟨rfl,I6⟩;have base:=I6.base;have os:=I6.os;have bY:=I6.bY;have oX:=I6.free;obtain⟨m,hm,_⟩:=I6.loc;rw[BZ]at oX hm;rw[<- hX]at base os bY;refine Yb _ _ H5 s6 m (I3.NV (ch:=fp) os base bY I6.bare λb hb=>⟨(f3 b hb).2.2.2.1,(f3 b hb).2.1,(f3 b hb).2.2.2.2.1,(f3 b hb).2.2.2.2.2⟩) hm oX I3.sz (Nat.ne_of_gt I3.lt) (I3.NR (a7 _)) (λx c e z=>?_) (λp hp z=>?_) stop.2
      · obtain⟨v,q⟩:=I3.cell x c e;exact absurd q.lt (by rw[z];exact jO _)
      · exact absurd (cg (I3.pin p hp).1) (by rw[z];exact jO _)
    · have ti:=T.item X' mG xw xK xc i [] s5 τ H5 (λ_ _=>False) I5 (Tz Fi) Le go;rw[xA]at ti;refine cj ti ?_;rintro r s6 ⟨u,rfl,h6⟩;refine cj h6 ?_;rintro _ s7 ⟨x,H7,I7,r7,y7,TC,Yc⟩;have Yd:=I7.pinned (Tz Yc) (T.obj _ _ TC);have ga:=Wh _ s7 τ H7 x u _ Yd r7 (step x H7 y7);rw[mG,xw,xA,Rq,BZ]at ga;refine cj ga ?_;rintro _ s8 ⟨Fw,H8,I8,q8⟩
      have fin:∀{Rr:St}{H9:Hp}{s9:Shared}{TH:List V},Inv X' ([]++ji fp s7.heap) Rr H9 s9->(∃m',m'<n/\W (i+1) m' Rr H9 TH)->∃m',m'<n/\∃i τ H' ys,Inv X' [] τ H' s9/\tn i s9.heap/\(∀b∈fp,H' b=none)/\W i m' τ H' ys:=λ{Rr H9 s9 TH} I9 w9=>by
        obtain⟨m',hm,w9⟩:=w9;refine⟨m',hm,i+1,Rr,H9,TH,I9.fY,T.keep _ _ _ TC λb hb o e=>(I9.pin (b,o) (gW _ (gW _ (fB hb e)))).1,λb hb=>?_,w9⟩;obtain⟨o,e,d⟩:=T.obj _ _ TC b hb;exact(I9.pin (b,o) (gW _ (gW _ (fB hb e)))).2.1
      have eg:∀b s9,TP X' ([]++ji fp s7.heap) Fw (λb H3 =>
        if b=true then te Fw H3 λv H4=>H4 s2.heap.objs.size=some (.lst ys)/\∃m',m'<n/\W (i+1) m' Fw (bH H4 s2.heap.objs.size (.lst (ys++[v]))) (ys++[v])
        else ∃ m', m' < n /\ W (i + 1) m' Fw H3 ys) b s9 -> (if b = true then wpAny (model X.prog X.w) X.A (eval elt (compEnvC scope (cellsFrom (hh.objs.size + 1) scope.names cl) hh.objs.size X.env)) (fun x vv =>
              wpAny (model X.prog X.w) X.A (call (.builtin "list.append") [.ref s2.heap.objs.size,x]) (λ_ yJ=>∃m,m<n/\∃i τ H' ys,Inv X' [] τ H' yJ/\tn i yJ.heap/\(∀b∈fp,H' b=none)/\W i m τ H' ys) (λ_ _=>False) vv) (λ_ _=>False) s9
            else ∃m,m<n/\∃i τ H' ys,Inv X' [] τ H' s9/\tn i s9.heap/\(∀b∈fp,H' b=none)/\W i m τ H' ys):=by
        rintro b s9 ⟨H9,I9,q9⟩
        cases b with
        | false=>rw[aT (by simp)]at q9⊢;exact fin I9 q9
        | true =>
          rw[aG rfl]at q9⊢;have ge:=OV _ s9 Fw H9 _ I9 q9;rw[mG,xw,xA,Rq,BZ]at ge;refine cj ge ?_;rintro v Ye ⟨y,Yg,Yh,Yi,Yj,Yk⟩;have ap:=mC (X:=X') _ Ye Fw Yg (.ref s2.heap.objs.size) [y] (.ref s2.heap.objs.size) [v] (λ_ H'=>∃m',m'<n/\W (i+1) m' Fw H' (ys++[y])) Yh rfl (.cons Yi .nil) ⟨_,ys,y,rfl,rfl,Yj,hz,Yk⟩;rw[mG,xw,xA,Rq]at ap;exact cj ap λ_ s11 ⟨_,H11,Yl,_,Ym⟩=>fin Yl Ym
      cases tc with
      | none =>
        have ei:ifs=[]:=OU;subst ei;exact wpAny_tests_nil (eg true s8 ⟨H8,I8,q8⟩)
      | some t =>
        obtain⟨c,ei,pt⟩:=OU;subst ei;have pt:=pt hh.objs.size {s2 with heap:=hh} (bH H2 s2.heap.objs.size (.lst [])) fp;rw[hX]at pt;refine wpAny_tests_one ?_;have gt:=pt _ s8 Fw H8 _ I8 q8;rw[mG,xw,xA,Rq,BZ]at gt;exact cj gt λb s9 q=>eg b s9 q
  have Fx:=loop _ I4 mF;exact codeAny_compStart_list Fx (T.self _ 0 _ _ _ mF Fx)
end
section
variable {X:Cx} {scope:Scope} {N':List Str} {cx:List (Option Nat)} {cl:List (Str×Addr)} {tg elt aD:Expr} {ifs:List Expr} {g:TG} {tc:Option TT} {te:TE} {wi:TI} {pos:Pos}
theorem B0(hc:X.calm=true)(hi:PI X tg aD wi)(ck:jn X scope N' cx cl tg elt ifs g tc te)(hs:∀x,foldedSetIterable aD X.env x=pure x:=by intro _;rfl):PE X (.ListComp elt [⟨tg,aD,ifs,0⟩] scope pos) (sV cx wi g tc te):=by
 intro pins s σ H Q I h;rw[eval_ListComp];refine wpAny_comprehension_free (use:=none) rfl hs ck.HZ.is ck.kind ck.names (cj (hi pins s σ H _ I h) λv s1 h1=>cj h1 λRj s2 h2=>?_);obtain⟨it,fp,tn,J,H2,e,I2,T,jW,f2,hC⟩:=h2;subst e;refine pz (Q:=Q) (RR:=λaA C=>compPost (model X.prog X.w) X.A X.xe none (EP X pins σ Q) aA C) hc ck I2 T jW f2 hC ?_;intro D C H' s' m I' hm TJ TK Rt Wi TL TM q;refine⟨m,hm,λh' TN=>?_⟩;exact⟨.ref D,H',I'.turned (t':=s'.toks) (λb o hb e=>TN.extBut b o hb e) TJ (ig (ig Rt)) (.inr TK) TL TM,rfl,q⟩
theorem B1{y:Str}{py OW:Pos}{i:Nat}(hc:X.calm=true)(hN:X.N.Nodup)(hy:X.N[i]?=some y)(hk:X.env.kindOf y=some .local)(Yn:swapsWith (.ListComp elt [⟨tg,aD,ifs,0⟩] scope pos) (some (.Name y py)) OW.line X.env=pure true)(hi:PI X tg aD wi)(ck:jn X scope N' cx cl tg elt ifs g tc te)(hs:∀x,foldedSetIterable aD X.env x=pure x:=by intro _;rfl):PS X (.Assign [.Name y py] (.ListComp elt [⟨tg,aD,ifs,0⟩] scope pos) OW) (λD σ H=>sV cx wi g tc te σ H λv H'=>D.nx (σ.set i (some v)) H'):=by
 intro pins s σ H D I h;rw[exec_Assign_Name_used _ _ _ _ Yn];refine ai (wpAny_standAt (ai ?_));show wpAny _ X.A (do let _ <- comprehension (.ListComp elt [⟨tg,aD,ifs,0⟩] scope pos) scope X.env _ (newList []) false (eval aD X.env) (some (assign (.Name y py) X.env))) _ _ s;refine ai (je (wpAny_comprehension_free (use:=some (assign (.Name y py) X.env)) (Q:=λ_ s'=>SP X pins D .next s') rfl hs ck.HZ.is ck.kind ck.names (cj (hi pins s σ H _ I h) λv s1 h1=>cj h1 λRj s2 h2=>?_)) (λ_ s' hq=>bg (bg hq)) λ_ _ e=>e);obtain⟨it,fp,tn,J,H2,e,I2,T,jW,f2,hC⟩:=h2;subst e;refine pz (Q:=λv H'=>D.nx (σ.set i (some v)) H') (RR:=λaA C=>compPost (model X.prog X.w) X.A X.xe (some (assign (.Name y py) X.env)) (λ_ s'=>SP X pins D .next s') aA C) hc ck I2 T jW f2 hC ?_;intro D' C H' s' m I' hm TJ TK Rt Wi TL TM q;show wpAny _ X.A (assign (.Name y py) X.env (.ref D')) _ _ s';obtain⟨o,es,ep,ho,hd,OX⟩:=hm
 have Ip:Inv X (pins++[(C,o)]) σ H' s':=I'.nq λp hp=>(fN.mp hp).elim (λz=>I'.pin p (gW _ z)) λz=>by
  have e:p=(C,o):=by simpa using z
  subst e;exact⟨ho,TJ,Rt,Wi,λv z=>by rw[hd]at z;cases z⟩
 have st:=nz (pos:=py) hN hy (.inl hk) (.inr hk) _ s' σ H' (.ref D') (.ref D') (λcE H'=>D.nx cE H') Ip rfl q;refine cj st ?_;rintro _ Oo ⟨TQ,Yo,Wj,Yp⟩;have pc:=Wj.pin (C,o) (by simp);refine⟨m,⟨o,es,ep,pc.1,hd,OX⟩,λh' TN=>?_⟩;exact⟨TQ,Yo,Wj.fY.turned (t':=Oo.toks) (λb o hb e=>TN.extBut b o hb e) pc.2.1 Rt (.inr TK) TL TM,Yp⟩
end
end L2
end
section
namespace L2
open PySem PySem.Spec PyProof.Rows
section
variable {prog:Program} {w:World} {A:Around} {E:Value->Shared->Prop} {s:Shared}
noncomputable def mH(prog:Program)(w:World)(A:Around)(s:Shared)(it:Addr)(x:Value)(after:Heap->Prop):Prop :=
 ∀(Q:Value->Shared->Prop)(E:Value->Shared->Prop),(∀h',after h'->Heap.SameBut it s.heap h'->Q x {s with heap:=h'})->wpAny (model prog w) A (Builtin.SmallTypes.nextOf (.ref it)) Q E s
noncomputable def pA(prog:Program)(w:World)(A:Around)(s:Shared)(it:Addr):Prop :=
 ∀(Q:Value->Shared->Prop)(E:Value->Shared->Prop),(∀h' e,Heap.ExtBut it s.heap h'->(∃o,h'.get? e=some o/\o.cls=.type "StopIteration")->E (.ref e) {s with heap:=h'}) ->
  wpAny (model prog w) A (Builtin.SmallTypes.nextOf (.ref it)) Q E s
theorem rn{it l:Addr}{i:Nat}{items:Array Value}{x:Value}(pB:s.heap.IsListIter it l i)(hl:s.heap.IsList l items)(hx:items[i]?=some x):mH prog w A s it x (λh=>h.IsListIter it l (i+1)):=λQ E hq=>wpAny_nextOf_list_item pB hl hx hq
theorem rq{it l:Addr}{i:Nat}{items:Array Value}(hh:A.handled=none)(pB:s.heap.IsListIter it l i)(hl:s.heap.IsList l items)(hx:items[i]?=none):pA prog w A s it:=λQ E hq=>wpAny_nextOf_list_end hh pB hl hx hq
theorem vA{it t:Addr}{i:Nat}{items:Array Value}{x:Value}(pB:s.heap.IsTupleIter it t i)(ht:s.heap.IsTuple t items)(hx:items[i]?=some x):mH prog w A s it x (λh=>h.IsTupleIter it t (i+1)):=by
 intro Q E hq;obtain⟨o,e1,e2,e3⟩:=id pB;obtain⟨ot,t1,_,nt,t2⟩:=ht;unfold Builtin.SmallTypes.nextOf;refine ai (uE (name:=Str.ofString "__next__") pB.typeIs A_ ?_);refine qM A_ pB.typeIs F.entry_tuple_iterator_next ?_ (F.args_tuple_iterator_next_1 _);show wpAny _ _ (field (.ref it) 0 >>= _) _ _ s;refine ai (gH e1 e3 (x:=.ref t) rfl ?_);show wpAny _ _ (if (Value.ref t==Value.none)=true then _ else _) _ _ s;rw[aT (by intro z;cases z)];refine ai (gH e1 e3 (x:=.int i 0) rfl (ai (oT t1 t2 ?_)));simp only[Bh,hx];refine ai (wpAny_setField e1 e3 (by simp) (bg ⟨x,rfl,bg (hq _ ⟨_,Heap.get?_update_self _ e1 (Obj.isFreed_of_fields (Obj.data_mapFields e3 _)),(Obj.cls_mapFields ..).trans e2,?_⟩ (Heap.SameBut.update ..))⟩));rw[Obj.data_mapFields e3];simp[rawInt]
theorem vB{it t:Addr}{i:Nat}{items:Array Value}(hh:A.handled=none)(pB:s.heap.IsTupleIter it t i)(ht:s.heap.IsTuple t items)(hx:items[i]?=none):pA prog w A s it:=by
 intro Q E hq;obtain⟨o,e1,e2,e3⟩:=id pB;obtain⟨ot,t1,_,nt,t2⟩:=ht;unfold Builtin.SmallTypes.nextOf;refine ai (uE (name:=Str.ofString "__next__") pB.typeIs A_ ?_);refine qM A_ pB.typeIs F.entry_tuple_iterator_next ?_ (F.args_tuple_iterator_next_1 _);show wpAny _ _ (field (.ref it) 0 >>= _) _ _ s;refine ai (gH e1 e3 (x:=.ref t) rfl ?_);show wpAny _ _ (if (Value.ref t==Value.none)=true then _ else _) _ _ s;rw[aT (by intro z;cases z)];refine ai (gH e1 e3 (x:=.int i 0) rfl (ai (oT t1 t2 ?_)));simp only[Bh,hx];refine ai (wpAny_rule (ai (wpAny_setField e1 e3 (by simp) ?_)));show wpAny _ _ (newExc (.type "StopIteration") [] >>= _) _ _ _;refine ai ?_;simp only[newExc,newTuple];refine ai (qK ?_ (by size_fits));refine ai (m:=firstArgMember _ _) (wpAny_of_eq (a:=Value.none) (by first | rfl | (simp only[firstArgMember];rfl)) (qK ?_ (by size_fits)));simp only[raiseNew];refine ai (wpAny_handled ?_)
 first | rw[show A.in1.handled=none from hh] | rw[hh]
 exact ai (bg (wpAny_throw (hq _ _ (((Heap.SameBut.update ..).extBut.push _).push _) ⟨_,d5 _ rfl,rfl⟩)))
end
theorem pC{h:Heap}{o:Obj}{b:Addr}(hb:b≠h.objs.size):(h.push o).get? b=h.get? b:=Heap.get?_push_ne h b o hb
theorem Inv.sW{X:Cx}{pins:List (Addr×Obj)}{σ:St}{H:Hp}{s:Shared}{h':Heap}{t':Nat}{ch:List Addr}(I:Inv X pins σ H s)(k:∀b o,b∉ch->s.heap.get? b=some o->h'.get? b=some o)(hf:∀b∈ch,jS X pins H b):Inv X pins σ H {s with heap:=h',toks:=t'}:=by
 have NT:∀b u,H b=some u->b∉ch:=λb u e z=>by rw[(hf b z).1]at e;cases e
 refine I.step (g':=s.gens) (d':=s.drawn) (ch:=ch) (λb hb=>⟨(hf b hb).2.2.2.1,(hf b hb).2.1,(hf b hb).2.2.2.2.1,(hf b hb).2.2.2.2.2⟩) (λb o _ _ hc e _=>k b o hc e) (λb o _ _ hc e _=>⟨o.slots,k b o hc e⟩) (λ_ _ _ _ n=>n)
  (λb o hc e=>⟨o,k b o hc e⟩) (λ_ _ e=>e) (λ_ _ _ e=>e) (λb ps e=>⟨#[],by rw[e];simp⟩) (λm hm=>?_) (λb u e=>?_) I.bare
 ·obtain⟨o,es,ep,ho,r⟩:=hm;exact⟨o,es,ep,k _ o (λz=>(hf _ z).2.1 rfl) ho,r⟩
 ·refine(I.bY b u e).uV (λc v hc q=>k c v ?_ q) (λ_ q=>q) λ_ _ q=>q;rcases hc with z | z
  ·rw[z];exact NT b u e
  ·exact NT c _ z
def oH(K:PySem.W.Frag)(H:Hp)(l:Bool)(a:Addr)(xs:List V):Prop:=if l=true then eF K H a xs else fb K H a xs
noncomputable def iw(l:Bool)(h:Heap)(it a:Addr)(i:Nat):Prop:=if l=true then h.IsListIter it a i else h.IsTupleIter it a i
theorem iw.at{l:Bool}{h h':Heap}{it a:Addr}{i:Nat}(x:iw l h it a i)(e:∀o,h.get? it=some o->h'.get? it=some o):iw l h' it a i:=by
 cases l with
 | true=>exact Heap.IsListIter.at (show h.IsListIter it a i from x) e
 | false=>exact Heap.IsTupleIter.at (show h.IsTupleIter it a i from x) e
theorem iw.obj{l:Bool}{h:Heap}{it a:Addr}{i:Nat}(x:iw l h it a i):∃o,h.get? it=some o/\o.data=.fields #[.ref a,.int i 0]:=by
 cases l with
 | true=>obtain⟨o,e,_,d⟩:=(show h.IsListIter it a i from x);exact⟨o,e,d⟩
 | false=>obtain⟨o,e,_,d⟩:=(show h.IsTupleIter it a i from x);exact⟨o,e,d⟩
end L2
end
section
namespace L2
open PySem PySem.Spec PyProof.Rows
section
variable {prog:Program} {w:World} {A:Around} {E:Value->Shared->Prop} {s:Shared}
structure ZA (z ti to i j:Addr):Prop where
 tz:ti≠z
 oz:to≠z
 iz:i≠z
 jz:j≠z
 tt:ti≠to
 di:ti≠i
 dj:ti≠j
 oi:to≠i
 oj:to≠j
 ij:i≠j
abbrev Zp(h:Heap)(z ti to:Addr)(f0 f1:Value):Prop :=
 h.get? z=some {cls:=.type "zip",dict:=none,data:=.fields #[f0,f1,.bool false,.ref ti,.ref to],slots:=#[]}
noncomputable def Fy(h:Heap)(z ti to:Addr):Prop:=∃f0 f1,(f0=.none\/∃p:Nat,f0=rawInt p)/\Zp h z ti to f0 f1
theorem kH{z ti to:Addr}{Q:Bool->Shared->Prop}(hz:Fy s.heap z ti to)(hQ:∀b h',Fy h' z ti to->Heap.SameBut z s.heap h'->Q b {s with heap:=h'}):wpAny (model prog w) A (Builtin.SmallTypes.ownedTupleIsFree (.ref z)) Q E s:=by
 obtain⟨f0,f1,hf,hz⟩:=hz;unfold Builtin.SmallTypes.ownedTupleIsFree;rcases hf with rfl | ⟨p,rfl⟩
 ·exact ai (gH hz rfl (x:=.none) rfl (bg (hQ true s.heap ⟨_,_,.inl rfl,hz⟩ (.refl _ _))))
 ·refine ai (gH hz rfl (x:=rawInt p) rfl ?_);show wpAny _ _ (loadIfAlive _ >>= _) _ _ _;have al:∀{b:Addr}{R:Option Obj->Shared->Prop},R (s.heap.get? b) s->wpAny (model prog w) A (loadIfAlive b) R E s:=λh _ _ _=>h;refine ai (al ?_)
  cases s.heap.get? (Int.toNat p)with
  | none=>exact bg (hQ true s.heap ⟨_,_,.inr ⟨p,rfl⟩,hz⟩ (.refl _ _))
  | some o =>
   show wpAny _ _ (field (.ref z) 1 >>= _) _ _ _;refine ai (gH hz rfl (x:=f1) rfl ?_);by_cases hb:(f1 != .bool true)=true
   ·rw[aG hb];exact ai (oO hz (by simp) λh' z1 s1=>bg (hQ false h' ⟨_,_,.inr ⟨p,rfl⟩,z1⟩ s1))
   ·rw[aT hb];exact bg (hQ false s.heap ⟨_,_,.inr ⟨p,rfl⟩,hz⟩ (.refl _ _))
theorem H0{z ti to a:Addr}{tg:Expr}{Q:Unit->Shared->Prop}(hz:Fy s.heap z ti to)(hQ:∀h',Fy h' z ti to->Heap.SameBut z s.heap h'->Q () {s with heap:=h'}):wpAny (model prog w) A (letOwnedTupleGo tg (.ref z) (.ref a)) Q E s:=by
 obtain⟨f0,f1,hf,hz⟩:=hz;have h0:=hQ s.heap ⟨f0,f1,hf,hz⟩ (.refl _ _)
 have mE:∀c:Bool,wpAny (model prog w) A (if c=true then (do rule "for.unpacks-the-owned-tuple";setField (.ref z) 0 .none) else pure ()) Q E s:=λc=>by
  cases c with
  | false=>exact bg h0
  | true=>exact ai (wpAny_rule (oO hz (by simp) λh' z1 s1=>hQ h' ⟨_,_,.inl rfl,z1⟩ s1))
 unfold letOwnedTupleGo
 cases tg<;>first
  | exact bg h0
  | exact ai (wpAny_load hz (mE _))
theorem yL {z ti to i j : Addr} {x y p q : Value} {st1 jW : Heap -> Prop} {Q : Option Value -> Shared -> Prop} (D : ZA z ti to i j) (zz : Fy s.heap z ti to) (yi : IsPair s.heap ti (.ref i) (.ref j)) (yo : IsPair s.heap to p q)
    (n1:∀h',(∀b o,b≠z->s.heap.get? b=some o->h'.get? b=some o)->mH prog w A.in1 {s with heap:=h'} i x st1)
    (n2:∀h',(∀b o,b≠z->b≠to->b≠i->s.heap.get? b=some o->h'.get? b=some o)->mH prog w A.in1 {s with heap:=h'} j y jW)
    (k1:∀h h',st1 h->(∀o,h.get? i=some o->h'.get? i=some o)->st1 h') (k2:∀h h',jW h->(∀o,h.get? j=some o->h'.get? j=some o)->jW h')
    (hQ:∀h',Fy h' z ti to->(∃p q,IsPair h' to p q)->st1 h'->jW h'->h'.get? s.heap.objs.size=some {cls:=.type "tuple",data:=.seq #[x,y]} ->
      (∀b o,b≠z->b≠to->b≠i->b≠j->s.heap.get? b=some o->h'.get? b=some o)->Q (some (.ref s.heap.objs.size)) {s with heap:=h'}) :
    wpAny (model prog w) A (pyNext (.ref z)) Q E s:=by
  have TR:=zz;obtain⟨f0,f1,hf,z0⟩:=TR;have hT:s.TypeIs (.ref z) "zip" := ⟨_,z0,rfl⟩;obtain⟨hp,g,d,tk,os⟩:=s;unfold pyNext;refine ai (wpAny_attempt (uE (name:=Str.ofString "__next__") hT wF (qM wF hT F.entry_zip_next ?_ (F.args_zip_next_1 _))));show wpAny _ _ (field (.ref z) 2 >>= _) _ _ _;refine ai (gH z0 rfl (x:=.bool false) rfl ?_);show wpAny _ _ (field (.ref z) 3 >>= _) _ _ _;refine ai (gH z0 rfl (x:=.ref ti) rfl ?_);refine ai (oT yi rfl ?_);show wpAny _ _ (Builtin.SmallTypes.ownedTupleIsFree (.ref z) >>= _) _ _ _;refine ai (kH (s:=⟨hp,g,d,tk,os⟩) zz λfr e0 zz s0=>?_);have s0:Heap.SameBut z hp e0:=s0;clear z0 hf f0 f1;obtain⟨f0,f1,hf,zz⟩:=zz
  cases fr with
  | false =>
    refine ai ?_;simp only[List.forIn_toArray,uP,wH];refine ai (ai (m9 ?_));show wpAny _ _ (Builtin.SmallTypes.nextOf (.ref i) >>= _) _ _ _;refine ai (n1 e0 (λb o hb=>s0.extBut b o hb) _ _ λe2 a2 s2=>bg (bg ?_));have s2:Heap.SameBut i e0 e2:=s2;refine ai (ai (m9 ?_));show wpAny _ _ (Builtin.SmallTypes.nextOf (.ref j) >>= _) _ _ _;refine ai (n2 e2 (λb o b1 b2 b3 u=>s2.extBut b o b3 (s0.extBut b o b1 u)) _ _ λe4 a4 s4=>bg (bg (bg ?_)));have s4:Heap.SameBut j e2 e4:=s4;have sz:e4.objs.size=hp.objs.size:=by rw[s4.1,s2.1,s0.1]
    refine ai (wpAny_newTuple (bg ⟨_,rfl,bg ?_⟩) (by show 2<=sizeLine;decide));show Q (some (.ref e4.objs.size)) ⟨e4.push {cls:=.type "tuple",data:=.seq #[x,y]},g,d,tk,os⟩;have t8:(e4.push {cls:=.type "tuple",data:=.seq #[x,y]}).get? e4.objs.size=some {cls:=.type "tuple",data:=.seq #[x,y]}:=d5 _ rfl;have up:∀b o,b≠i->b≠j->e0.get? b=some o->(e4.push {cls:=.type "tuple",data:=.seq #[x,y]}).get? b=some o:=λb o b1 b2 u=>bQ _ (s4.extBut b o b2 (s2.extBut b o b1 u));rw[sz]at t8⊢
    exact hQ _ ⟨f0,f1,hf,up _ _ D.iz.symm D.jz.symm zz⟩ ⟨_,_,up _ _ D.oi D.oj (s0.extBut _ _ D.oz yo)⟩ (k1 e2 _ a2 λo u=>bQ _ (s4.extBut _ _ D.ij u)) (k2 e4 _ a4 λo u=>bQ _ u) t8
      λb o b1 b2 b3 b4 u=>up b o b3 b4 (s0.extBut b o b1 u)
  | true =>
  show wpAny _ _ (rule _ >>= _) _ _ _;refine ai (wpAny_rule (ai (gH (s:=⟨e0,g,d,tk,os⟩) zz rfl (x:=.ref to) rfl ?_)));refine ai (oO zz (by simp) λe1 z1 s1=>?_);have s1:Heap.SameBut z hp e1:=s0.trans s1
  replace z1:Zp e1 z ti to .ellipsis f1:=z1
  refine ai ?_;simp only[List.zipIdx_cons,List.zipIdx_nil,uP,wH];refine ai (ai (wpAny_onRaise ?_));show wpAny _ _ (Builtin.SmallTypes.nextOf (.ref i) >>= _) _ _ _;refine ai (n1 e1 (λb o hb=>s1.extBut b o hb) _ _ λe2 a2 s2=>bg ?_);have s2:Heap.SameBut i e1 e2:=s2;have o2:IsPair e2 to p q:=s2.extBut _ _ D.oi (s1.extBut _ _ D.oz yo);refine ai (oT o2 rfl ?_);refine ai (GB (s:=⟨e2,g,d,tk,os⟩) o2 λe3 o3 s3=>?_);have s3:Heap.SameBut to e2 e3:=s3
  replace o3:IsPair e3 to x q:=o3
  refine ai (wpAny_letGo (bg ?_));refine ai (ai (wpAny_onRaise ?_));show wpAny _ _ (Builtin.SmallTypes.nextOf (.ref j) >>= _) _ _ _;refine ai (n2 e3 (λb o b1 b2 b3 u=>s3.extBut b o b2 (s2.extBut b o b3 (s1.extBut b o b1 u))) _ _ λe4 a4 s4=>bg ?_);have s4:Heap.SameBut j e3 e4:=s4;have o4:IsPair e4 to x q:=s4.extBut _ _ D.oj o3;refine ai (oT o4 rfl ?_);refine ai (GB (s:=⟨e4,g,d,tk,os⟩) o4 λe5 o5 s5=>?_);have s5:Heap.SameBut to e4 e5:=s5
  replace o5:IsPair e5 to x y:=o5
  refine ai (wpAny_letGo (bg (bg ?_)));refine ai (oT o5 rfl ?_);refine ai (wpAny_newTuple ?_);have sz:e5.objs.size=hp.objs.size:=by rw[s5.1,s4.1,s3.1,s2.1,s1.1]
  have z5:Zp e5 z ti to .ellipsis f1:=s5.extBut _ _ D.oz.symm (s4.extBut _ _ D.jz.symm (s3.extBut _ _ D.oz.symm (s2.extBut _ _ D.iz.symm z1)))
  have Yq:∀b o,b≠z->b≠to->b≠i->b≠j->hp.get? b=some o->e5.get? b=some o:=λb o b1 b2 b3 b4 u =>
    s5.extBut _ _ b2 (s4.extBut _ _ b4 (s3.extBut _ _ b2 (s2.extBut _ _ b3 (s1.extBut _ _ b1 u))))
  have Wk:z<e5.objs.size:=cg z5;show wpAny _ _ (Builtin.SmallTypes.ownedTupleHandOut (.ref z) (.ref e5.objs.size) >>= _) _ _ _;refine ai ?_;unfold Builtin.SmallTypes.ownedTupleHandOut;have z6:Zp (e5.push {cls:=.type "tuple",data:=.seq #[x,y]}) z ti to .ellipsis f1:=bQ _ z5;refine ai (oO z6 (by simp) λe7 z7 s7=>?_);have s7:Heap.SameBut z (e5.push {cls:=.type "tuple",data:=.seq #[x,y]}) e7:=s7
  replace z7:Zp e7 z ti to (rawInt e5.objs.size) f1:=z7
  refine oO (s:=⟨e7,g,d,tk,os⟩) z7 (by simp) λe8 z8 s8=>?_;have s8:Heap.SameBut z e7 e8:=s8
  replace z8:Zp e8 z ti to (rawInt e5.objs.size) (.bool false):=z8
  have up:∀b o,b≠z->e5.get? b=some o->e8.get? b=some o:=λb o b1 u=>s8.extBut _ _ b1 (s7.extBut _ _ b1 (bQ _ u));have t8:e8.get? e5.objs.size=some {cls:=.type "tuple",data:=.seq #[x,y]}:=s8.extBut _ _ (Nat.ne_of_gt Wk) (s7.extBut _ _ (Nat.ne_of_gt Wk) (d5 _ rfl));rw[sz]at z8 t8;refine bg ⟨_,rfl,bg ?_⟩;show Q (some (.ref e5.objs.size)) _;rw[sz]
  exact hQ e8 ⟨_,_,.inr ⟨_,rfl⟩,z8⟩ ⟨_,_,up _ _ D.oz o5⟩ (k1 e2 e8 a2 λo u=>up _ o D.iz (s5.extBut _ _ D.oi.symm (s4.extBut _ _ D.ij (s3.extBut _ _ D.oi.symm u)))) (k2 e4 e8 a4 λo u=>up _ o D.jz (s5.extBut _ _ D.oj.symm u)) t8
    λb o b1 b2 b3 b4 u=>up b o b1 (Yq b o b1 b2 b3 b4 u)
theorem B2 {z ti to i j : Addr} {p q : Value} {st1 : Heap -> Prop} {Q : Option Value -> Shared -> Prop} (D : ZA z ti to i j) (zz : Fy s.heap z ti to) (yi : IsPair s.heap ti (.ref i) (.ref j)) (yo : IsPair s.heap to p q)
    (n:(∀h',(∀b o,b≠z->s.heap.get? b=some o->h'.get? b=some o)->pA prog w A.in1 {s with heap:=h'} i) \/
      (∃x,(∀h',(∀b o,b≠z->s.heap.get? b=some o->h'.get? b=some o)->mH prog w A.in1 {s with heap:=h'} i x st1) /\
        ∀h',(∀b o,b≠z->b≠to->b≠i->s.heap.get? b=some o->h'.get? b=some o)->pA prog w A.in1 {s with heap:=h'} j))
    (hQ:∀h',(∀b o,b≠z->b≠to->b≠i->b≠j->s.heap.get? b=some o->h'.get? b=some o)->Q none {s with heap:=h'}) :
    wpAny (model prog w) A (pyNext (.ref z)) Q E s:=by
  have TR:=zz;obtain⟨f0,f1,hf,z0⟩:=TR;have hT:s.TypeIs (.ref z) "zip" := ⟨_,z0,rfl⟩;obtain⟨hp,g,d,tk,os⟩:=s
  have fin : ∀ (h' : Heap) (e : Addr), (∀ b o, b ≠ z -> b ≠ to -> b ≠ i -> b ≠ j -> hp.get? b = some o -> h'.get? b = some o) -> (∃ o, h'.get? e = some o /\ o.cls = .type "StopIteration") ->
      wpAny (model prog w) A (do if <- isInstance (.ref e) (.type "StopIteration") then pure none else throw (.ref e)) Q E ⟨h',g,d,tk,os⟩:=λh' e hk ⟨o,ho,hc⟩ =>
    ai (wpAny_isInstance (T := "StopIteration") (b:=true) ⟨o,ho,hc⟩ isSubtype_stop (bg (hQ h' hk)))
  unfold pyNext;refine ai (wpAny_attempt (uE (name:=Str.ofString "__next__") hT wF (qM wF hT F.entry_zip_next ?_ (F.args_zip_next_1 _))));show wpAny _ _ (field (.ref z) 2 >>= _) _ _ _;refine ai (gH z0 rfl (x:=.bool false) rfl ?_);show wpAny _ _ (field (.ref z) 3 >>= _) _ _ _;refine ai (gH z0 rfl (x:=.ref ti) rfl ?_);refine ai (oT yi rfl ?_);show wpAny _ _ (Builtin.SmallTypes.ownedTupleIsFree (.ref z) >>= _) _ _ _;refine ai (kH (s:=⟨hp,g,d,tk,os⟩) zz λfr e0 zz s0=>?_);have s0:Heap.SameBut z hp e0:=s0;clear z0 hf f0 f1;obtain⟨f0,f1,hf,zz⟩:=zz
  cases fr with
  | false =>
    refine ai ?_;simp only[List.forIn_toArray,uP,wH];refine ai (ai (m9 ?_));show wpAny _ _ (Builtin.SmallTypes.nextOf (.ref i) >>= _) _ _ _;rcases n with n | ⟨x,n1,n2⟩
    · refine ai (n e0 (λb o hb=>s0.extBut b o hb) _ _ λe2 e s2 he=>?_);have s2:Heap.ExtBut i e0 e2:=s2;exact fin e2 e (λb o b1 b2 b3 b4 u=>s2 _ _ b3 (s0.extBut _ _ b1 u)) he
    · refine ai (n1 e0 (λb o hb=>s0.extBut b o hb) _ _ λe2 a2 s2=>bg (bg ?_));have s2:Heap.SameBut i e0 e2:=s2;refine ai (ai (m9 ?_));show wpAny _ _ (Builtin.SmallTypes.nextOf (.ref j) >>= _) _ _ _;refine ai (n2 e2 (λb o b1 b2 b3 u=>s2.extBut b o b3 (s0.extBut b o b1 u)) _ _ λe4 e s4 he=>?_);have s4:Heap.ExtBut j e2 e4:=s4;exact fin e4 e (λb o b1 b2 b3 b4 u=>s4 _ _ b4 (s2.extBut _ _ b3 (s0.extBut _ _ b1 u))) he
  | true =>
  show wpAny _ _ (rule _ >>= _) _ _ _;refine ai (wpAny_rule (ai (gH (s:=⟨e0,g,d,tk,os⟩) zz rfl (x:=.ref to) rfl ?_)));refine ai (oO zz (by simp) λe1 z1 s1=>?_);have s1:Heap.SameBut z hp e1:=s0.trans s1
  replace z1:Zp e1 z ti to .ellipsis f1:=z1
  refine ai ?_;simp only[List.zipIdx_cons,List.zipIdx_nil,uP,wH];refine ai (ai (wpAny_onRaise ?_));show wpAny _ _ (Builtin.SmallTypes.nextOf (.ref i) >>= _) _ _ _;rcases n with n | ⟨x,n1,n2⟩
  · refine ai (n e1 (λb o hb=>s1.extBut b o hb) _ _ λe2 e s2 he=>?_);have s2:Heap.ExtBut i e1 e2:=s2;obtain⟨oe,ge,ce⟩:=he;have ge:e2.get? e=some oe:=ge;have z2:Zp e2 z ti to .ellipsis f1:=s2 _ _ D.iz.symm z1;have ez:e≠z:=λu=>by subst u;rw[z2]at ge;cases ge;simp at ce
    refine oO (s:=⟨e2,g,d,tk,os⟩) z2 (by simp) λe3 _ s3=>?_;have s3:Heap.SameBut z e2 e3:=s3;exact fin e3 e (λb o b1 b2 b3 b4 u=>s3.extBut _ _ b1 (s2 _ _ b3 (s1.extBut _ _ b1 u))) ⟨oe,s3.extBut _ _ ez ge,ce⟩
  · refine ai (n1 e1 (λb o hb=>s1.extBut b o hb) _ _ λe2 a2 s2=>bg ?_);have s2:Heap.SameBut i e1 e2:=s2;have o2:IsPair e2 to p q:=s2.extBut _ _ D.oi (s1.extBut _ _ D.oz yo);refine ai (oT o2 rfl ?_);refine ai (GB (s:=⟨e2,g,d,tk,os⟩) o2 λe3 o3 s3=>?_);have s3:Heap.SameBut to e2 e3:=s3;refine ai (wpAny_letGo (bg ?_));refine ai (ai (wpAny_onRaise ?_));show wpAny _ _ (Builtin.SmallTypes.nextOf (.ref j) >>= _) _ _ _;refine ai (n2 e3 (λb o b1 b2 b3 u=>s3.extBut b o b2 (s2.extBut b o b3 (s1.extBut b o b1 u))) _ _ λe4 e s4 he=>?_);have s4:Heap.ExtBut j e3 e4:=s4;obtain⟨oe,ge,ce⟩:=he;have ge:e4.get? e=some oe:=ge;have z4:Zp e4 z ti to .ellipsis f1:=s4 _ _ D.jz.symm (s3.extBut _ _ D.oz.symm (s2.extBut _ _ D.iz.symm z1));have ez:e≠z:=λu=>by subst u;rw[z4]at ge;cases ge;simp at ce
    refine oO (s:=⟨e4,g,d,tk,os⟩) z4 (by simp) λe5 _ s5=>?_;have s5:Heap.SameBut z e4 e5:=s5;exact fin e5 e (λb o b1 b2 b3 b4 u=>s5.extBut _ _ b1 (s4 _ _ b4 (s3.extBut _ _ b2 (s2.extBut _ _ b3 (s1.extBut _ _ b1 u))))) ⟨oe,s5.extBut _ _ ez ge,ce⟩
end
def TU(K:PySem.W.Frag)(l m:Bool)(a b:Addr):It :=
  ⟨λi H=>∃xs ys x y,oH K H l a xs/\oH K H m b ys/\xs[i]?=some x/\ys[i]?=some y,
   λi H v H'=>∃p x y,v=.ref p/\H p=none/\H'=bH H p (.tup [x,y])/\(∀xs,oH K H l a xs->xs[i]?=some x)/\∀ys,oH K H m b ys->ys[i]?=some y,
   λi H=>∃xs ys,oH K H l a xs/\oH K H m b ys/\(xs.length<=i\/ys.length<=i)⟩
section
variable {X:Cx} {pins:List (Addr×Obj)} {σ:St} {H:Hp} {s:Shared}
theorem nO{A:Around}{l:Bool}{a it:Addr}{i:Nat}{xs:List V}{x:V}(I:Inv X pins σ H s)(hq:oH X.K H l a xs)(h2:iw l s.heap it a i)(hx:xs[i]?=some x):(∃u,RelV x u/\∀h',(∀o,s.heap.get? a=some o->h'.get? a=some o)->(∀o,s.heap.get? it=some o->h'.get? it=some o)->mH X.prog X.w A {s with heap:=h'} it u (λh=>iw l h it a (i+1)))/\∀ys,oH X.K H l a ys->ys[i]?=some x:=by
 cases l with
 | true =>
  have hq:eF X.K H a xs:=hq;obtain⟨ar,rv,p,hz⟩:=I.list hq;obtain⟨u,hu,ru⟩:=rv.get hx;exact⟨⟨u,ru,λh' e1 e2=>rn (s:={s with heap:=h'}) (Heap.IsListIter.at (show s.heap.IsListIter it a i from h2) e2) (p.isList.at e1) (by simpa using hu)⟩,λys hy=>by rw[I.oZ (show eF X.K H a ys from hy) hq];exact hx⟩
 | false =>
  have hq:fb X.K H a xs:=hq;obtain⟨ar,rv,p,hz⟩:=I.tuple hq;obtain⟨u,hu,ru⟩:=rv.get hx;have p:s.heap.IsTuple a ar.toArray:=p;exact⟨⟨u,ru,λh' e1 e2=>vA (s:={s with heap:=h'}) (Heap.IsTupleIter.at (show s.heap.IsTupleIter it a i from h2) e2) (p.at e1) (by simpa using hu)⟩,λys hy=>by rw[I.ml (show fb X.K H a ys from hy) hq];exact hx⟩
theorem sX{A:Around}{l:Bool}{a it:Addr}{i:Nat}{xs:List V}(hh:A.handled=none)(I:Inv X pins σ H s)(hq:oH X.K H l a xs)(h2:iw l s.heap it a i)(hx:xs.length<=i):∀h',(∀o,s.heap.get? a=some o->h'.get? a=some o)->(∀o,s.heap.get? it=some o->h'.get? it=some o)->pA X.prog X.w A {s with heap:=h'} it:=by
 cases l with
 | true =>
  obtain⟨ar,rv,p,hz⟩:=I.list (show eF X.K H a xs from hq);have hl:=rv.length;exact λh' e1 e2=>rq (s:={s with heap:=h'}) hh (Heap.IsListIter.at (show s.heap.IsListIter it a i from h2) e2) (p.isList.at e1) (by simp;omega)
 | false =>
  obtain⟨ar,rv,p,hz⟩:=I.tuple (show fb X.K H a xs from hq);have hl:=rv.length;have p:s.heap.IsTuple a ar.toArray:=p;exact λh' e1 e2=>vB (s:={s with heap:=h'}) hh (Heap.IsTupleIter.at (show s.heap.IsTupleIter it a i from h2) e2) (p.at e1) (by simp;omega)
end
theorem yM{P:Program}{w:World}{K:PySem.W.Frag}{tg:Expr}(l m:Bool)(a b z ti to i j:Addr)(D:ZA z ti to i j)(ha:a≠z)(hb:b≠z/\b≠to/\b≠i):qP P w K tg (TU K l m a b) [z,ti,to,i,j] z (λn h=>Fy h z ti to/\IsPair h ti (.ref i) (.ref j)/\(∃p q,IsPair h to p q)/\iw l h i a n/\iw m h j b n) where
 mem:=by simp
 obj:=λn h st c hc=>by
  rcases st with⟨⟨_,_,_,h1⟩,h2,⟨p,q,h3⟩,h4,h5⟩;have hc:c=z\/c=ti\/c=to\/c=i\/c=j:=by simpa using hc
  rcases hc with rfl | rfl | rfl | rfl | rfl
  ·exact⟨_,h1,λv u=>by have u':Data.fields _=Data.cell v:=u;cases u'⟩
  ·exact⟨_,h2,λv u=>by have u':Data.seq _ _=Data.cell v:=u;cases u'⟩
  ·exact⟨_,h3,λv u=>by have u':Data.seq _ _=Data.cell v:=u;cases u'⟩
  ·obtain⟨o,q,d⟩:=h4.obj;exact⟨o,q,λv u=>by rw[d]at u;cases u⟩
  ·obtain⟨o,q,d⟩:=h5.obj;exact⟨o,q,λv u=>by rw[d]at u;cases u⟩
 keep:=λn h h' st e=>by
  obtain⟨⟨f0,f1,hf,h1⟩,h2,⟨p,q,h3⟩,h4,h5⟩:=st;exact⟨⟨f0,f1,hf,e z (by simp) _ h1⟩,e ti (by simp) _ h2,⟨p,q,e to (by simp) _ h3⟩,h4.at λo u=>e i (by simp) o u,h5.at λo u=>e j (by simp) o u⟩
 item:=by
  intro X hP hw hK hc n pins s σ H E I hf st hg;subst hP hw hK;obtain⟨h1,h2,⟨p,q,h3⟩,h4,h5⟩:=st;obtain⟨xs,ys,x,y,qx,qy,hx,hy⟩:=hg;obtain⟨⟨u,ru,nu⟩,au⟩:=nO (A:=X.A.in1) I qx h4 hx;obtain⟨⟨v,rv,nv⟩,av⟩:=nO (A:=X.A.in1) I qy h5 hy;obtain⟨oi,gi,_⟩:=h4.obj;obtain⟨oj,gj,_⟩:=h5.obj;refine yL D h1 h2 h3 (λh' e=>nu h' (λo=>e a o ha) λo=>e i o D.iz) (λh' e=>nv h' (λo=>e b o hb.1 hb.2.1 hb.2.2) λo=>e j o D.jz D.oj.symm D.ij.symm) (λh h' st e=>st.at e) (λh h' st e=>st.at e) λh' o1 o2 o3 o4 o5 o6=>⟨_,rfl,?_⟩;refine H0 (s:={s with heap:=h'}) o1 λTV p1 p2=>?_;have p2:Heap.SameBut z h' TV:=p2;have fr:H s.heap.objs.size=none:=I.bY.fresh (a7 _)
  have I1:Inv X pins σ (bH H s.heap.objs.size (.tup [x,y])) {s with heap:=s.heap.push {cls:=.type "tuple",data:=.seq #[u,v]}} :=
   I.laid (t':=s.toks) (λc o e=>bQ _ e) (a7 _) ⟨by show 2<=sizeLine;decide,[u,v],.cons ru (.cons rv .nil),⟨_,d5 _ rfl,rfl,0,rfl⟩⟩
  have ne:∀c∈[z,ti,to,i,j],c≠s.heap.objs.size:=λc hc=>by
   have hc:c=z\/c=ti\/c=to\/c=i\/c=j:=by simpa using hc
   rcases hc with rfl | rfl | rfl | rfl | rfl
   ·obtain⟨_,_,_,h1⟩:=h1;exact fg (cg h1)
   ·exact fg (cg h2)
   ·exact fg (cg h3)
   ·exact fg (cg gi)
   ·exact fg (cg gj)
  have Wl:∀c∈[z,ti,to,i,j],jS X pins (bH H s.heap.objs.size (.tup [x,y])) c:=λc hc=>⟨by rw[ax (ne c hc)];exact(hf c hc).1,(hf c hc).2⟩
  have I2:=I1.sW (h':=TV) (t':=s.toks) (ch:=[z,ti,to,i,j]) (λc o hc e=>by
   have oY:c≠z/\c≠ti/\c≠to/\c≠i/\c≠j:=by simpa using hc
   refine p2.extBut c o oY.1 ?_;by_cases hz:c=s.heap.objs.size
   ·subst hz;have e':(s.heap.push {cls:=.type "tuple",data:=.seq #[u,v]}).get? s.heap.objs.size=some _:=d5 _ rfl;rw[e']at e;cases e;exact o5
   ·have e2:s.heap.get? c=some o:=by
     cases hs:s.heap.get? c with
     | some o'=>rw[bQ _ hs]at e;exact e
     | none=>exact absurd e (by rw[pC hz,hs];intro z;cases z)
    exact o6 c o oY.1 oY.2.2.1 oY.2.2.2.1 oY.2.2.2.2 e2) Wl
  have up:∀c o,c≠z->h'.get? c=some o->TV.get? c=some o:=λc o hc e=>p2.extBut c o hc e;exact⟨.ref s.heap.objs.size,_,I2,rfl,⟨s.heap.objs.size,x,y,rfl,fr,rfl,au,av⟩,⟨p1,up _ _ D.tz (o6 _ _ D.tz D.tt D.di D.dj h2),o2.imp λ_=>.imp λ_=>up _ _ D.oz,o3.at λo e=>up _ _ D.iz e,o4.at λo e=>up _ _ D.jz e⟩,λc hc=>(Wl c hc).1⟩
 done:=by
  intro X hP hw hK hc n pins s σ H E I hf st hg;subst hP hw hK;obtain⟨h1,h2,⟨p,q,h3⟩,h4,h5⟩:=st;obtain⟨xs,ys,qx,qy,hx⟩:=hg;have hh:X.A.in1.handled=none:=I.ok.hd hc
  have fin:∀h',(∀c o,c≠z->c≠to->c≠i->c≠j->s.heap.get? c=some o->h'.get? c=some o)->(none:Option Value)=none/\Inv X pins σ H {s with heap:=h'}:=λh' e=>⟨rfl,I.sW (t':=s.toks) (ch:=[z,ti,to,i,j]) (λc o hc u=>by
   have oY:c≠z/\c≠ti/\c≠to/\c≠i/\c≠j:=by simpa using hc
   exact e c o oY.1 oY.2.2.1 oY.2.2.2.1 oY.2.2.2.2 u) hf⟩
  refine B2 (st1:=λh=>iw l h i a (n+1)) D h1 h2 h3 ?_ λh' e=>fin h' e;by_cases hl:xs.length<=n
  ·exact .inl λh' e=>sX hh I qx h4 hl h' (λo=>e a o ha) λo=>e i o D.iz
  ·have Yr:n<xs.length:=∅;obtain⟨⟨u,ru,nu⟩,au⟩:=nO (A:=X.A.in1) I qx h4 (fx Yr);exact .inr ⟨u,λh' e=>nu h' (λo=>e a o ha) λo=>e i o D.iz,λh' e=>sX hh I qy h5 ∅ h' (λo=>e b o hb.1 hb.2.1 hb.2.2) λo=>e j o D.jz D.oj.symm D.ij.symm⟩
 self:=λA n s Q E ⟨⟨_,_,_,hz⟩,_⟩ h=>by
  have hT:s.TypeIs (.ref z) "zip" := ⟨_,hz,rfl⟩;refine wpAny_pyIter_slot hT F.slot_zip_iter (qM F.slot_zip_iter hT F.entry_zip_iter ?_ (F.args_zip_iter_1 _));show wpAny _ _ (ret (.ref z)) _ _ s;exact bg ⟨_,rfl,"zip",_,hT,wF.lookup,h⟩
end L2
end
section
namespace L2
open PySem PySem.Spec PyProof.Rows
abbrev TX(l:Bool)(a:Addr):Obj:={cls:=.type (if l=true then "list_iterator" else "tuple_iterator"),data:=.fields #[.ref a,.int 0 0]}
noncomputable def OY(l:Bool)(h:Heap)(a:Addr)(xs:Array Value):Prop:=if l=true then h.IsList a xs else h.IsTuple a xs
abbrev Ru(h:Heap)(l:Bool)(a:Addr):Heap:=h.push (TX l a)
abbrev Rv(h:Heap)(l m:Bool)(a b:Addr):Heap:=(Ru h l a).push (TX m b)
abbrev Rw(h:Heap)(l m:Bool)(a b:Addr):Heap:=(Rv h l m a b).push {cls:=.type "tuple",data:=.seq #[.ref h.objs.size,.ref (Ru h l a).objs.size]}
abbrev Rx(h:Heap)(l m:Bool)(a b:Addr):Heap:=(Rw h l m a b).push {cls:=.type "tuple",data:=.seq #[.none,.none]}
abbrev Lh(h:Heap)(l m:Bool)(a b:Addr):Heap:=(Rx h l m a b).push {cls:=.type "zip",data:=.fields #[.none,.bool false,.bool false,.ref (Rv h l m a b).objs.size,.ref (Rw h l m a b).objs.size]}
theorem vC(l m:Bool)(a b:Addr)(xs ys:Array Value):Meets (Builtin.«zip.__new__» ⟨[.type "zip",.ref a,.ref b],[]⟩) (λ_ R s=>OY l s.heap a xs/\OY m s.heap b ys/\R (.ok (.ret (.ref (Rx s.heap l m a b).objs.size))) {s with heap:=Lh s.heap l m a b}) :=
 .of_wp λprog w A R s h=>by
  obtain⟨hp,g,d,tk,os⟩:=s;obtain⟨ha,hb,h⟩:=h;have Ys:=sub_zip;have keep:∀(o:Obj) c v,hp.get? c=some v->(hp.push o).get? c=some v:=λo c v e=>bQ _ e
  cases l with
  | true =>
   have h1:Heap.IsList (Shared.heap ⟨hp,g,d,tk,os⟩) a xs:=ha
   cases m with
   | true =>
    have h2:Heap.IsList (Shared.heap ⟨hp.push {cls:=.type "list_iterator",data:=.fields #[.ref a,.int 0 0]},g,d,tk,os⟩) b ys:=(show hp.IsList b ys from hb).at λo e=>keep _ _ _ e
    wp_walk using uL h1,uL h2
    exact⟨_,rfl,h⟩
   | false =>
    have h2:Heap.IsTuple (Shared.heap ⟨hp.push {cls:=.type "list_iterator",data:=.fields #[.ref a,.int 0 0]},g,d,tk,os⟩) b ys:=(show hp.IsTuple b ys from hb).at λo e=>keep _ _ _ e
    wp_walk using uL h1,uJ h2
    exact⟨_,rfl,h⟩
  | false =>
   have h1:Heap.IsTuple (Shared.heap ⟨hp,g,d,tk,os⟩) a xs:=ha
   cases m with
   | true =>
    have h2:Heap.IsList (Shared.heap ⟨hp.push {cls:=.type "tuple_iterator",data:=.fields #[.ref a,.int 0 0]},g,d,tk,os⟩) b ys:=(show hp.IsList b ys from hb).at λo e=>keep _ _ _ e
    wp_walk using uJ h1,uL h2
    exact⟨_,rfl,h⟩
   | false =>
    have h2:Heap.IsTuple (Shared.heap ⟨hp.push {cls:=.type "tuple_iterator",data:=.fields #[.ref a,.int 0 0]},g,d,tk,os⟩) b ys:=(show hp.IsTuple b ys from hb).at λo e=>keep _ _ _ e
    wp_walk using uJ h1,uJ h2
    exact⟨_,rfl,h⟩
section
variable {prog:Program} {w:World} {A:Around} {E:Value->Shared->Prop} {s:Shared}
theorem pE{l:Bool}{h:Heap}{it a:Addr}(e:h.get? it=some (TX l a)):iw l h it a 0:=by
 cases l with
 | true=>exact⟨_,e,rfl,rfl⟩
 | false=>exact⟨_,e,rfl,rfl⟩
theorem yN {l m : Bool} {a b : Addr} {xs ys : Array Value} {Q : Value -> Shared -> Prop} (ha : OY l s.heap a xs) (hb : OY m s.heap b ys)
    (h:∀h',IsZip h' (s.heap.objs.size+4) (s.heap.objs.size+2) (s.heap.objs.size+3) .none->IsPair h' (s.heap.objs.size+2) (.ref s.heap.objs.size) (.ref (s.heap.objs.size+1))->IsPair h' (s.heap.objs.size+3) .none .none ->
      iw l h' s.heap.objs.size a 0->iw m h' (s.heap.objs.size+1) b 0->(∀c o,s.heap.get? c=some o->h'.get? c=some o)->Q (.ref (s.heap.objs.size+4)) {s with heap:=h'}) :
    wpAny (model prog w) A (call (.type "zip") [.ref a,.ref b]) Q E s:=by
  refine callType_new F.called_zip (by decide) (F.typeCall_zip_2 _ _) (F.newCall_zip_2 _ _) (λobj=>F.args_object_init_3 obj _ _) F.entry_zip_new (vC l m a b xs ys) ⟨ha,hb,?_⟩;have n1:(Ru s.heap l a).objs.size=s.heap.objs.size+1:=kc ..;have n2:(Rv s.heap l m a b).objs.size=s.heap.objs.size+2:=by rw[kc,n1]
  have n3:(Rw s.heap l m a b).objs.size=s.heap.objs.size+3:=by rw[kc,n2]
  have n4:(Rx s.heap l m a b).objs.size=s.heap.objs.size+4:=by rw[kc,n3]
  have e5:(Lh s.heap l m a b).get? (Rx s.heap l m a b).objs.size=some _:=d5 _ rfl;have e4:(Lh s.heap l m a b).get? (Rw s.heap l m a b).objs.size=some _:=bQ _ (d5 _ rfl);have e3:(Lh s.heap l m a b).get? (Rv s.heap l m a b).objs.size=some _:=bQ _ (bQ _ (d5 _ rfl));have e2:(Lh s.heap l m a b).get? (Ru s.heap l a).objs.size=some _:=bQ _ (bQ _ (bQ _ (d5 _ rfl)));have e1:(Lh s.heap l m a b).get? s.heap.objs.size=some _:=bQ _ (bQ _ (bQ _ (bQ _ (d5 _ rfl))));show _/\_;rw[n2,n3,n4]at e5;rw[n1,n2]at e3;rw[n3]at e4;rw[n1]at e2;rw[n4];exact⟨⟨_,e5,rfl⟩,h _ e5 e3 e4 (pE e1) (pE e2) λc o u=>bQ _ (bQ _ (bQ _ (bQ _ (bQ _ u))))⟩
end
section
variable {X:Cx}
def TY(K:PySem.W.Frag)(ta:TA):TI:=λσ H R=>ta σ H λvs H1=>∃(l m:Bool) (a b:Addr),vs=[.ref a,.ref b]/\(∃xs,oH K H1 l a xs)/\(∃ys,oH K H1 m b ys)/\R (TU K l m a b) H1
theorem yO{pins:List (Addr×Obj)}{σ:St}{H:Hp}{s:Shared}{l:Bool}{a:Addr}{xs:List V}(I:Inv X pins σ H s)(h:oH X.K H l a xs):∃ar:Array Value,OY l s.heap a ar/\a<s.heap.objs.size:=by
 cases l with
 | true =>
  obtain⟨ar,_,p,_⟩:=I.list (show eF X.K H a xs from h);exact⟨ar.toArray,p.isList,by obtain⟨o,e,_⟩:=p.isList;exact cg e⟩
 | false =>
  obtain⟨ar,_,p,_⟩:=I.tuple (show fb X.K H a xs from h);exact⟨ar.toArray,p,by obtain⟨o,e,_⟩:=(show s.heap.IsTuple a ar.toArray from p);exact cg e⟩
theorem OZ{n:Nat}:ZA (n+4) (n+2) (n+3) n (n+1) :=
 ⟨(by omega:(n+2:Nat)≠n+4),(by omega:(n+3:Nat)≠n+4),(by omega:(n:Nat)≠n+4),(by omega:(n+1:Nat)≠n+4),(by omega:(n+2:Nat)≠n+3),(by omega:(n+2:Nat)≠n),(by omega:(n+2:Nat)≠n+1),(by omega:(n+3:Nat)≠n),(by omega:(n+3:Nat)≠n+1),(by omega:(n:Nat)≠n+1)⟩
theorem yP{n c:Nat}(h:c∈[n+4,n+2,n+3,n,n+1]):n<=c:=by
 simp only[bw,oS,dH]at h;omega
theorem sY{a n k:Nat}(h:a<n):a≠n+k:=∅
theorem H_{a b:Expr}{ta:TA}{tg:Expr}{p pos:Pos} (hg:Gl X "zip") (hm:X.mg "zip" = none) (ha:PA X [a,b] ta) (hs:starEach [a,b] X.env=(false,eval a X.env)::starEach [b] X.env) (x5:starEach [b] X.env=[(false,eval b X.env)]):PI X tg (.Call (.Name "zip" p) [a,b] [] pos) (TY X.K ta):=by
 intro pins s σ H R I h;refine Call_ (jg I hg hm boot_zip (AZ (cj (ha pos pins s σ H _ I h) ?_) hs (by rw[x5];rfl)));rintro us s1 ⟨vs,H1,I1,r1,q1⟩;obtain⟨l,m,c,d,rfl,⟨xs,hx⟩,⟨ys,hy⟩,q⟩:=q1;obtain⟨u1,u2,rfl,ru,O0⟩:=vals2 r1;cases ru;cases O0;obtain⟨ix,sx,lx⟩:=yO I1 hx;obtain⟨iy,sy,ly⟩:=yO I1 hy;refine yN sx sy λh' e1 e2 e3 e4 e5 e6=>?_;refine wpAny_pyIter_zip (s:={s1 with heap:=h'}) e1 ?_;have I2:Inv X pins σ H1 {s1 with heap:=h'}:=I1.kept (t':=s1.toks) e6;exact⟨s1.heap.objs.size+4,[s1.heap.objs.size+4,s1.heap.objs.size+2,s1.heap.objs.size+3,s1.heap.objs.size,s1.heap.objs.size+1],_,_,H1,rfl,I2,yM l m c d _ _ _ _ _ OZ (sY lx) ⟨sY ly,sY ly,sY (k:=0) ly⟩,⟨⟨_,_,.inl rfl,e1⟩,e2,⟨_,_,e3⟩,e4,e5⟩,λc hc=>I1.x3 (yP hc) (I1.bY.fresh (yP hc)),q⟩
end
end L2
end
section
namespace L2
open PySem PySem.Spec PyProof.Rows
open PySem.AutoSeq1 (wpAny_loadPart')
end L2
end
section
namespace L2
open PySem PySem.Spec PyProof.Rows
end L2
end
section
namespace L2
open PySem PySem.Spec PyProof.Rows
end L2
end
section
namespace L2
open PySem PySem.Spec PyProof.Rows
end L2
end
section
namespace L2
open PySem PySem.Spec PyProof.Rows
end L2
end
section
namespace L2
open PySem PySem.Spec PyProof.Rows
end L2
end
section
namespace L2
open PySem PySem.Spec PyProof.Rows
end L2
end
section
namespace L2
open PySem PySem.Spec PyProof.Rows
end L2
end
section
namespace L2
open PySem PySem.Spec PyProof.Rows
end L2
end
section
namespace L2
open PySem PySem.Spec PyProof.Rows
end L2
end
section
namespace L2
open PySem PySem.Spec PyProof.Rows
section
variable {X:Cx} {tg:Expr}
noncomputable def O1(i:Int):List Int->List Int
 | []=>[i]
 | j::js=>if i<=j then i::j::js else j::O1 i js
def Ia:List Int->List Int
 | []=>[]
 | i::is=>O1 i (Ia is)
end
end L2
end
section
namespace L2
open PySem PySem.Spec PyProof.Rows
end L2
end
section
namespace L2
open PySem PySem.Spec PyProof.Rows
end L2
end
section
namespace L2
open PySem PySem.Spec PyProof.Rows
end L2
end
section
namespace L2
open PySem PySem.Spec PyProof.Rows
end L2
end
section
namespace L2
open PySem PySem.Spec PyProof.Rows
end L2
end
section
namespace TS
open PySem PyProof PyProof.Rows
section
variable {prog:Program} {w:World} {A:Around} {E:Value->Shared->Prop} {s:Shared} {κ:SortKind} {ky:Keyed->Int} {G:Keyed->Prop}
noncomputable def KX(ky:Keyed->Int)(xs:Array Keyed)(i:Nat):Int:=match xs[i]? with
 | some p=>ky p
 | none=>0
end
end TS
end
section
namespace TS
open PySem PyProof PyProof.Rows
noncomputable def Fn(ky:Keyed->Int)(a b r:Array Keyed):Prop:=r.toList.Perm (a.toList++b.toList)/\r.toList.Pairwise (λx y=>ky x<=ky y)
end TS
end
section
namespace TS
open PySem PyProof PyProof.Rows
end TS
end
section
namespace TS
open PySem PyProof PyProof.Rows
structure Sp (κ:SortKind) (lo:Nat) (st mn:SortSt):Prop where
 kind:kindOf mn=κ
 pend:pendingOf mn=pendingOf st
 fail:failedOf mn=failedOf st
 perm:(arrOf mn).Perm (arrOf st)
 pre:∀i,i<lo->(arrOf mn)[i]?=(arrOf st)[i]?
section
variable {ky:Keyed->Int} {G:Keyed->Prop} {κ:SortKind} {lo:Nat} {st mn:SortSt}
theorem Sp.size(h:Sp κ lo st mn):(arrOf mn).size=(arrOf st).size:=h.perm.size_eq
end
end TS
end
section
namespace TS
open PySem PyProof PyProof.Rows
end TS
end
section
namespace TS
open PySem PyProof PyProof.Rows
end TS
end
section
namespace L2
open PySem PySem.Spec PyProof.Rows
noncomputable def Ib(h:Heap)(v:Value)(k:Int×Int):Prop:=∃ad ob t u n,v=.ref ad/\h.get? ad=some ob/\ob.cls=.type "tuple" /\ ob.data=.seq #[.int k.1 t,.int k.2 u] n
def TZ(a b:Int×Int):Prop:=a.1<b.1\/a.1=b.1/\a.2<b.2
instance {a b:Int×Int}:Decidable (TZ a b):=inferInstanceAs (Decidable (_\/_))
theorem Ib.one{h:Heap}{v:Value}{k j:Int×Int}(x:Ib h v k)(y:Ib h v j):k=j:=by
 obtain⟨a,o,t,u,n,rfl,h1,h2,h3⟩:=x;obtain⟨a',o',t',u',n',e,Wm,h2',Wn⟩:=y;cases e;rw[h1]at Wm;cases Wm;rw[h3]at Wn;injection Wn with e1 e2;have:=jP Array.toList e1;simp only[List.cons.injEq,Value.int.injEq,and_true]at this;exact Prod.ext this.1.1 this.2.1
theorem Ib.keep{h h':Heap}{v:Value}{k:Int×Int}(x:Ib h v k)(e:∀b o,h.get? b=some o->h'.get? b=some o):Ib h' v k:=by
 obtain⟨a,o,t,u,n,h0,h1,h2⟩:=x;exact⟨a,o,t,u,n,h0,e _ _ h1,h2⟩
section
open Classical in
end
end L2
end
section
namespace L2
open PySem PySem.Spec PyProof.Rows
end L2
end
section
namespace L2
open PySem PySem.Spec PyProof.Rows
noncomputable def O2(x:Int×Int):List (Int×Int)->List (Int×Int)
 | []=>[x]
 | y::ys=>if TZ x y then x::y::ys else y::O2 x ys
def O3:List (Int×Int)->List (Int×Int)
 | []=>[]
 | x::xs=>O2 x (O3 xs)
abbrev Wo(k:Int×Int):HO:=.tup [.int k.1,.int k.2]
section
variable {X:Cx}
theorem gO.t2{P:Program}{w:World}{H:Hp}{h:Heap}(x:gO P w H h){b:Addr}{k:Int×Int}(e:H b=some (Wo k)):Ib h (.ref b) k:=by
 obtain⟨_,ar,vs,o,ho,hc,n,hd⟩:=(show bX P w H h b (Wo k) from x b _ e)
 cases vs with
 | cons r1 t =>
  cases t with
  | cons r2 t =>
   cases t;obtain⟨t1,rfl⟩:=r1;obtain⟨t2,rfl⟩:=r2;exact⟨b,o,t1,t2,n,rfl,ho,hc,hd⟩
end
end L2
end
section
namespace L2
open PySem PySem.Spec PyProof.Rows
end L2
end
section
namespace L2
open PySem PySem.Spec PyProof.Rows
end L2
end
section
namespace L2
open PySem PySem.Spec PyProof.Rows
end L2
end
section
namespace L2
open PySem PySem.Spec PyProof.Rows
end L2
end
section
namespace L2
open PySem PySem.Spec PyProof.Rows
end L2
end
section
namespace L2
open PySem PySem.Spec PyProof.Rows
open Builtin Builtin.ObjectAttr
end L2
end
section
namespace L2
open PySem PySem.Spec PyProof.Rows
open Builtin Builtin.ObjectAttr
end L2
end
section
namespace L2
open PySem PySem.Spec PyProof.Rows
open Builtin Builtin.ObjectAttr
end L2
end
section
namespace L2
open PySem PySem.Spec PyProof.Rows
open Builtin Builtin.ObjectAttr
end L2
end
section
namespace L2
open PySem PySem.Spec PyProof.Rows
end L2
end
section
namespace L2
open PySem PySem.Spec PyProof.Rows
section
variable {X:Cx} {pins:List (Addr×Obj)} {σ:St} {H:Hp} {s:Shared}
def vD(P:Program)(w:World):vd:=λ_ _ _ _ _ _=>False
structure sZ (X:Cx) (E:XK):Prop where
 own:PassesOwn (model X.prog X.w) X.A X.env X.xe
theorem sZ.pass{E:XK}(p:sZ X E):nD (vD X.prog X.w) X E:=λ_ _ _ _ _ _ _ h=>h.elim
end
theorem nP{P:Program}{w:World}{K:PySem.W.Frag}{mg:Str->Option Value}{base:Heap}{N:List Str}{qual:Str}{scope:Scope}{f:Addr}{cd:Value}{A:Around}{outer:List Env}{dI:Shared}{H₀:Hp}{E:XK}:sZ (qV (vD P w) P w K mg base N qual scope f cd A outer dI H₀ E) E where
 own:=PassesOwn.leaving
end L2
end
section
namespace L2
open PySem PySem.Spec PyProof.Rows
noncomputable def Ry(K:PySem.W.Frag)(C D fI:Addr)(fs:List Str):Prop:=K=K/\C=D/\fI=fI/\fs=fs
noncomputable def X0(a C:Addr):HO:=.ext λh=>∃oe t,h.get? a=some oe/\oe.cls=.ref C/\oe.dict=none/\oe.data=.fields #[.ref t,.none,.none,.none,.bool false,.none]
noncomputable def X1(a C dx:Addr):HO:=.ext λh=>∃oe t,h.get? a=some oe/\oe.cls=.ref C/\oe.dict=some dx/\oe.data=.fields #[.ref t,.none,.none,.none,.bool false,.none]
def Wq(K:PySem.W.Frag)(C D fI:Addr)(fs:List Str):Sp:=λvs H Q _=>∃a ys,vs=.ref a::ys/\ys.length=fs.length/\H a=some (X0 a C)/\Ry K C D fI fs/\∀dx,H dx=none->dx≠a->Q .ba (bH (bH H dx (.xd (fs.zip ys))) a (X1 a C dx))
end L2
end
section
namespace L2
open PySem PySem.Spec PyProof.Rows
noncomputable def Cx.hx(X:Cx)(e:Addr):Cx:={X with A:=X.A.mark (some (.ref e)),calm:=false,xe:=λ_ _=>False}
section
variable {X:Cx} {pins:List (Addr×Obj)} {σ:St} {H:Hp} {s:Shared} {e:Addr}
theorem Inv.hx(I:Inv X pins σ H s)(e:Addr):Inv (X.hx e) pins σ H s :=
 ⟨⟨I.ok.mod,I.ok.kind,I.ok.glob,I.ok.blt,I.ok.above,I.ok.inj,I.ok.has,I.ok.Fc,λz=>Bool.noConfusion z,I.ok.frames,I.ok.Lc,I.ok.Rg,I.ok.bs,I.ok.Br,I.ok.uX,I.ok.uY,I.ok.jR,I.ok.G_⟩,I.os,I.bare,I.base,I.loc,I.cell,I.free,I.fW,I.pin,I.bY,I.len⟩
end
end L2
end
section
namespace L2
open PySem PySem.Spec PyProof.Rows
end L2
end
section
namespace L2
open PySem PySem.Spec PyProof.Rows
end L2
end
section
namespace L2
open PySem PySem.Spec PyProof.Rows
structure Fz (k:Nat) (A:Around):Prop where
 dp:A.depth+3*k+5<recursionLimit
 un:A.units+16*k+200<cLine
structure FA (P:Program) (w:World) (K:PySem.W.Frag) (mg:Str->Option Value) (base:Heap) (CX:vd) (k:Nat) (f:Addr) (fd:FuncData) (ps:List Str) (sp:Sp):Prop where
 len:∀vs H Q E,sp vs H Q E->vs.length=ps.length
 run:∀(A:Around)(outer:List Env)(s:Shared)(H:Hp)(args:Args)(us:List Value)(vs:List V)(Q:VK)(E:XK),Fz k A->yc P w K mg base A outer s H->BindsTo s fd args (ps.zip us)->aE vs us->sp vs H Q E ->
  codeAny (model P w) A (.call (.ref f) args) (CR CX outer P w H s Q E) s
end L2
end
section
namespace L2
open PySem PySem.Spec PyProof.Rows
open Builtin
theorem jo:fillsNumberSlot (.type "tuple") "mul" = pure false :=
 PySem.fillsNumberSlot_seq (id := "tuple.__mul__") (r:=some (.builtin "tuple.__rmul__")) Bk.lookup ⋯ F.slot_tuple_rmul.lookup ⋯
theorem nQ:seqRepeat? (.type "tuple")=pure (some (.builtin "tuple.__mul__")):=by
 unfold seqRepeat?;rw[PySem.seqSlot_of (T := "tuple") (name := "__mul__") (id := "tuple.__mul__") Bk.lookup ⋯,PySem.seqSlot_of (T := "tuple") (name := "__rmul__") (id := "tuple.__rmul__") F.slot_tuple_rmul.lookup ⋯];rfl
theorem kI(a:Int)(t:Tok)(l:Addr)(items:Array Value)(n:Nat)(od:Option Addr)(pf:Array (Option Value)):Meets (Builtin.«int.__rmul__» ⟨[.int a t,.ref l],[]⟩) (λ_ R s=>s.heap.get? l=some {cls:=.type "tuple",dict:=od,data:=.seq items n,slots:=pf}/\R (.ok (.ret Value.notImplemented)) s) :=
 .of_wp λprog w A R s h=>by obtain⟨hp,g,d,tk,os⟩:=s;obtain⟨hl,h⟩:=h;wp_walk;exact⟨_,rfl,h⟩
theorem kJ(l:Addr)(items:Array Value)(n:Nat)(od:Option Addr)(pf:Array (Option Value))(x:Int)(u:Tok)(h1:-(2 ^ 63)<=x)(h2:x<2 ^ 63)(hs:(items.isEmpty||x==1)=true):Meets (Builtin.«tuple.__mul__» ⟨[.ref l,.int x u],[]⟩) (λ_ R s=>s.heap.get? l=some {cls:=.type "tuple",dict:=od,data:=.seq items n,slots:=pf}/\R (.ok (.ret (Value.ref l))) s) :=
 .of_wp λprog w A R s h=>by
  obtain⟨hp,g,d,tk,os⟩:=s;obtain⟨hl,h⟩:=h;have f1:=AutoSeq1.idx_int;have f2:=AutoSeq1.sub_tuple_tuple;have hf:(decide (x < -(2 ^ 63))||decide (x ≥ 2 ^ 63))=false:=by rw[c_ ∅,c_ ∅];rfl
  wp_walk using wpAny_loadPart' hl
  rw[aT (by rw[hf];exact aI)]
  wp_walk using wpAny_loadPart' hl
  exact⟨_,rfl,h⟩
theorem l7(l:Addr)(items:Array Value)(n:Nat)(od:Option Addr)(pf:Array (Option Value))(x:Int)(u:Tok)(h1:-(2 ^ 63)<=x)(h2:x<2 ^ 63)(hs:(items.isEmpty||x==1)=false)(hz:items.size*x.toNat<=sizeLine):Meets (Builtin.«tuple.__mul__» ⟨[.ref l,.int x u],[]⟩) (λ_ R s=>s.heap.get? l=some {cls:=.type "tuple",dict:=od,data:=.seq items n,slots:=pf}/\R (.ok (.ret (Value.ref s.heap.objs.size))) {s with heap:=s.heap.push {cls:=.type "tuple",data:=.seq (List.foldl (λx1 x2=>x1++x2) #[] (List.replicate x.toNat items))}}) :=
 .of_wp λprog w A R s h=>by
  obtain⟨hp,g,d,tk,os⟩:=s;obtain⟨hl,h⟩:=h;have f1:=AutoSeq1.idx_int;have f2:=AutoSeq1.sub_tuple_tuple;have hf:(decide (x < -(2 ^ 63))||decide (x ≥ 2 ^ 63))=false:=by rw[c_ ∅,c_ ∅];rfl
  have he:items.isEmpty=false:=(Bool.or_eq_false_iff.mp hs).1
  wp_walk using wpAny_loadPart' hl
  rw[aT (by rw[hf];exact aI)]
  wp_walk using wpAny_loadPart' hl
  rw[aT (by rw[hs];exact aI)];by_cases h0:x<=0
  ·rw[aG (by rw[dE h0];rfl)];have e0:x.toNat=0:=∅;rw[e0]at h
   wp_walk
   exact⟨_,rfl,h⟩
  ·rw[aT (by rw[c_ h0,he];exact aI)];have ez:(items.size:Int)*x=((items.size*x.toNat:Nat):Int):=by rw[Int.natCast_mul,Int.toNat_of_nonneg ∅]
   have hb:¬(items.size:Int)*x>(2 ^ 63-1) / 8:=by
    rw[ez];have:(sizeLine:Nat)<=1000000000000:=by decide
    omega
   have ht:Tuple.tupleTooMany ((items.size:Int)*x)=false:=by
    unfold Tuple.tupleTooMany;rw[ez];exact c_ ∅
   rw[aT hb,aT (by rw[ht];exact aI)]
   have hsz:(List.foldl (λx1 x2=>x1++x2) #[] (List.replicate x.toNat items)).size<=sizeLine:=by
    have:=foldl_rep items.toList x.toNat [];rw[wD,Array.toArray_toList]at this;rw[this,cB,nL,Nat.mul_comm];exact hz
   wp_walk
   exact⟨_,rfl,h⟩
def O4:R2:=λx y H Q=>∃l k xs,x=.ref l/\y=.int k/\H l=some (.tup xs)/\-(2 ^ 63)<=k/\k<2 ^ 63/\xs.length*k.toNat<=sizeLine /\
 ((List.replicate k.toNat xs).flatten=xs->Q (.ref l) H)/\∀p,H p=none->Q (.ref p) (bH H p (.tup (List.replicate k.toNat xs).flatten))
section
variable {X:Cx}
theorem B3:gI X (binaryOp .Mult) O4:=by
 intro pins s σ H x y v u Q I rx ry h;obtain⟨l,k,xs,rfl,rfl,hH,h1,h2,hz,q1,q2⟩:=h;cases rx;obtain⟨t,rfl⟩:=ry;obtain⟨hx,ar,r,o,e,c,n,d⟩:=(show bX X.prog X.w H s.heap l (.tup xs) from I.bY l _ hH);obtain⟨oc,od,Yt,pf⟩:=o;obtain rfl:oc=.type "tuple" := c;obtain rfl:Yt=.seq ar.toArray n:=d;have bS:ar.toArray.size*k.toNat<=sizeLine:=by rw[cB,<- r.length];exact hz
 refine wpAny_binaryOp_repeat_ref (T := "tuple") (U := "int") (by decide) ⟨_,e,rfl⟩ (λs'=>typeIs_int s' k t) jo F.fills_int_mul Bo nQ F.slot_int_index.lookup
  (jf Bo (typeIs_int s k t) F.entry_int_rmul (F.args_int_rmul_2 _ _) (kI k t l ar.toArray n od pf)
   ⟨e,rfl,⟨_,e,rfl⟩,?_⟩)
 cases hs:(ar.toArray.isEmpty||k==1)with
 | true =>
  refine jf Bk ⟨_,e,rfl⟩ F.entry_tuple_mul (F.args_tuple_mul_2 _ _) (kJ l ar.toArray n od pf k t h1 h2 hs) ⟨e,?_⟩;refine⟨.ref l,H,I,rfl,q1 ?_⟩;rcases Bool.or_eq_true_iff.mp hs with z | z
  ·have:ar=[]:=by simpa using z
   subst this;have:xs=[]:=Gu.mp (by rw[r.length];rfl);subst this;simp
  ·have:k=1:=by simpa using z
   subst this;simp
 | false =>
  refine jf Bk ⟨_,e,rfl⟩ F.entry_tuple_mul (F.args_tuple_mul_2 _ _) (l7 l ar.toArray n od pf k t h1 h2 hs bS) ⟨e,?_⟩
  have l5:List.foldl (λx1 x2=>x1++x2) #[] (List.replicate k.toNat ar.toArray)=(List.replicate k.toNat ar).flatten.toArray:=by
   have:=foldl_rep ar k.toNat [];rw[wD]at this;exact this
  rw[l5];have hf:H s.heap.objs.size=none:=I.bY.fresh (a7 _);refine⟨.ref s.heap.objs.size,bH H s.heap.objs.size (.tup (List.replicate k.toNat xs).flatten),I.laid (t':=s.toks) (λb u e=>bQ _ e) (a7 _) ?_,rfl,q2 _ hf⟩;exact⟨by rw[nL,Nat.mul_comm];exact hz,_,r.rep k.toNat,⟨_,d5 _ rfl,rfl,_,rfl⟩⟩
end
end L2
end
section
open PySem PySem.Spec PyProof.Rows
namespace HT
section
variable {prog:Program} {w:World} {A:Around} {E:Value->Shared->Prop} {s:Shared}
theorem gJ{t sl:Addr}{items:Array Value}{vl vu:Value}{lo hi:Option Int}{Q:Value->Shared->Prop}(ht:IsTup s.heap t items)(hs:s.heap.IsSliceOf sl vl vu .none)(pl:IsPart vl lo)(pu:IsPart vu hi)(hw:cF items.size 0 lo=0/\cF items.size items.size hi=items.size)(h:Q (.ref t) s):wpAny (model prog w) A (getItem (.ref t) (.ref sl)) Q E s:=by
 obtain⟨os,HK,BL,OA⟩:=id hs;have Ta:s.TypeIs (.ref sl) "slice" := ⟨os,HK,BL⟩;unfold getItem
 try with_reducible refine m9 ?_
 first | refine ai (bg ?_) | skip
 refine ai (wpAny_sequenceKey ht.typeIs (by decide) ?_)
 refine ai (uE (name:=Str.ofString "__getitem__") ht.typeIs uB
  (qM uB ht.typeIs entry_tuple_getitem ?_ (args_tuple_getitem _ _)))
 show wpAny _ _ (Builtin.Tuple.tupleItemsOf (.ref t) >>= _) _ _ s;refine ai (tupleItemsOf_ ht ?_);refine ai (wpAny_typeOf Ta ?_);rw[aG (by decide)];refine ai (fi hs pl pu ?_)
 have T3:(((cF items.size 0 lo:Nat):Int)==0&&(1:Int)==1&&(cF items.size items.size hi-cF items.size 0 lo)==items.size)=true:=by
  rw[hw.1,hw.2];simp
 show wpAny _ _ (if (((cF items.size 0 lo:Nat):Int)==0&&(1:Int)==1&&(cF items.size items.size hi-cF items.size 0 lo)==items.size)=true then _ else _) _ _ s;rw[aG T3];unfold Builtin.Tuple.tupleIsExact;refine ai (ai (wpAny_typeOf ht.typeIs (bg ?_)));rw[aG (by decide)]
 wp_walk
 exact⟨_,rfl,bg h⟩
end
end HT
namespace L2
def T4(K:PySem.W.Frag):V->Option Int->Option Int->Hp->VK->Prop:=λx lo hi H Q=>∃a xs,x=.ref a/\fb K H a xs /\
 (HT.cF xs.length 0 lo=0/\HT.cF xs.length xs.length hi=xs.length)/\Q x H
theorem B4{X:Cx}:OC X (T4 X.K):=by
 intro pins s σ H x v vl vu lo hi sl Q I rx hs pl pu h;obtain⟨a,xs,rfl,hx,hw,q⟩:=h;cases rx;obtain⟨ar,r,ht,hz⟩:=I.tuple hx;have bS:ar.toArray.size=xs.length:=by rw[cB];exact r.length.symm
 refine⟨"tuple",_,uB.lookup,ht.typeIs,?_⟩;exact HT.gJ ht hs pl pu (by rw[bS];exact hw) ⟨.ref a,H,I,rfl,q⟩
end L2
end
section
namespace L2
open PySem PySem.Spec PyProof.Rows
noncomputable def T5(x:Str):It:=⟨λi _=>i<x.cps.size,λi H y H'=>H'=H/\∃c,x.cps[i]?=some c/\y=.str ⟨#[c]⟩,λi _=>x.cps.size<=i⟩
theorem yQ{P:Program}{w:World}{K:PySem.W.Frag}{tg:Expr}(it:Addr)(x:Str)(t:Tok):qP P w K tg (T5 x) [it] it (λi h=>h.IsStrIter it "str_ascii_iterator" x t i) where
 mem:=by simp
 obj:=λi h st b hb=>by
  have e:b=it:=by simpa using hb
  subst e;obtain⟨o,e,c,d⟩:=st;exact⟨o,e,λv z=>by rw[d]at z;cases z⟩
 keep:=λi h h' st k=>by
  obtain⟨o,e,q⟩:=st;exact⟨o,k it (by simp) o e,q⟩
 item:=by
  intro X hP hw hK hc i pins s σ H E I hf st hg;subst hP hw hK;obtain⟨f0,f1,f2,f3,f4,f5⟩:=hf it (by simp);have hx:x.cps[i]?=some x.cps[i]:=Array.getElem?_eq_getElem hg;refine wpAny_pyNext_ascii_item st hx λh' mn sb=>?_;have I1:Inv X pins σ H {s with heap:=h',toks:=s.toks+1}:=I.turned (λb o hb e=>(sb.2 b hb).trans e) f0 f1 f3 f4 f5;obtain⟨o,e,c,d⟩:=id mn;exact⟨_,rfl,sO (s:={s with heap:=h',toks:=s.toks+1}) e c d (by decide) ⟨.str ⟨#[x.cps[i]]⟩,H,I1,⟨s.toks,rfl⟩,⟨rfl,_,hx,rfl⟩,mn,λb hb=>(hf b hb).1⟩⟩
 done:=by
  intro X hP hw hK hc i pins s σ H E I hf st hg;subst hP hw hK;obtain⟨f0,f1,f2,f3,f4,f5⟩:=hf it (by simp);exact wpAny_pyNext_ascii_end (I.ok.hd hc) st (Array.getElem?_eq_none hg) λh' eb=>⟨rfl,I.turned (t':=s.toks) (λb o hb e=>eb b o hb e) f0 f1 f3 f4 f5⟩
 self:=λ_ _ _ _ _ st h=>wpAny_pyIter_striter_ascii st h
section
variable {X:Cx} {tg:Expr}
def T6(tl:TE):TI:=λσ H R=>tl σ H λy H1=>∃x:Str,y=.str x/\(x.cps.all λc=>decide (c<128))=true/\R (T5 x) H1
theorem Ic{l:Expr}{tl:TE}(hl:PE X l tl):PI X tg l (T6 tl):=by
 intro pins s σ H R I h;refine cj (hl pins s σ H _ I h) ?_;rintro v s1 ⟨y,H1,I1,r1,q1⟩;obtain⟨x,e,ha,q⟩:=q1;subst e;obtain⟨t,rfl⟩:=r1;refine wpAny_pyIter_ascii ha ?_;refine⟨s1.heap.objs.size,[s1.heap.objs.size],_,_,H1,rfl,I1.kept (t':=s1.toks) λb o e=>bQ _ e,yQ _ x t,⟨_,d5 _ rfl,rfl,rfl⟩,λb hb=>?_,q⟩;have e:b=s1.heap.objs.size:=by simpa using hb
 subst e;exact I1.x3 (a7 _) (I1.bY.fresh (a7 _))
end
end L2
end
section
namespace Ev
open L2
open PySem PySem.Spec PyProof.Rows
set_option genInjectivity true in
inductive D where
 | ba | bl (b:Bool) | int (i:Int) | str (s:Str) | tup (ds:List D) | aB (n:Nat) | ls (ds:List D) | fn (a:Addr) | tg (ds:List D)
 deriving Inhabited
set_option genInjectivity true in
inductive MO where
 | lst (ds:List D) | i9 (ds:List D) | dK (ao:List (bZ×D)) | dT (ao:List (List bZ×D)) | dF (ao:List (List bZ×D)) | dG (ao:List (bZ×D)) | xc (C:Addr) (fs:List (Str×D))
 deriving Inhabited
abbrev af:=List MO
abbrev En:=List (Option D)
inductive W where
 | d (x:D) | lv (ds:List D)
 deriving Inhabited
structure yR where
 cls:Addr
 fs:List (Str×D)
inductive bE (α:Type) where
 | ok (a:α) (M:af) | err (x:yR) (M:af) | aa
noncomputable def bE.bind{α β:Type}(o:bE α)(f:α->af->bE β):bE β:=match o with
 | .ok a M=>f a M
 | .err x M=>.err x M
 | .aa=>.aa
noncomputable def bE.b0{α β:Type}(o:bE α)(f:α->af->bE β):bE β:=match o with
 | .ok a M=>f a M
 | _=>.aa
noncomputable def pF(K:PySem.W.Frag)(H:Hp)(a:Addr)(xs:List V):Prop :=
 (∃o,H a=some (.fP o (.lst xs)))\/∃(o:Obj) (ar:Array Value) (n:Nat),K.lookup a=some o/\o.cls=.type "list" /\ o.dict=none/\o.data=.seq ar n/\ar.size<=sizeLine/\aE xs ar.toList
theorem pF.sq{K:PySem.W.Frag}{H:Hp}{a:Addr}{xs:List V}(h:pF K H a xs):eF K H a xs:=by
 rcases h with⟨o,h⟩ | h
 ·exact .inl (.inr ⟨o,h⟩)
 ·exact .inr h
noncomputable def O5(K:PySem.W.Frag)(a:Addr)(xs:List V):Prop:=∃(o:Obj) (ar:Array Value) (n:Nat),K.lookup a=some o/\o.cls=.type "tuple" /\ o.data=.seq ar n/\ar.size<=sizeLine/\aE xs ar.toList
mutual
noncomputable def RD(K:PySem.W.Frag)(ads:List Addr)(H:Hp):D->V->Prop
 | .ba,v=>v=.ba
 | .bl b,v=>v=.bl b
 | .int i,v=>v=.int i
 | .str s,v=>v=.str s
 | .tup ds,v=>∃a xs,v=.ref a/\H a=some (.tup xs)/\aH K ads H ds xs
 | .aB n,v=>∃a,v=.ref a/\ads[n]?=some a
 | .ls ds,v=>∃a xs,v=.ref a/\pF K H a xs/\aH K ads H ds xs
 | .fn a,v=>v=.ref a
 | .tg ds,v=>∃a xs,v=.ref a/\O5 K a xs/\aH K ads H ds xs
noncomputable def aH(K:PySem.W.Frag)(ads:List Addr)(H:Hp):List D->List V->Prop
 | [],xs=>xs=[]
 | d::ds,xs=>∃x r,xs=x::r/\RD K ads H d x/\aH K ads H ds r
end
section
variable (K:PySem.W.Frag) (ads:List Addr) (H:Hp)
def cf{κ:Type}:List (κ×D)->List (κ×V)->Prop
 | [],xs=>xs=[]
 | p::ps,xs=>∃x r,xs=x::r/\p.1=x.1/\RD K ads H p.2 x.2/\cf ps r
def Li(a:Addr):MO->Prop
 | .lst ds=>∃xs,H a=some (.lst xs)/\aH K ads H ds xs
 | .i9 ds=>∃o xs,H a=some (.fP o (.lst xs))/\aH K ads H ds xs
 | .dK ao=>∃ks,H a=some (.dK ks)/\cf K ads H ao ks
 | .dT ao=>∃ks,H a=some (.dT ks)/\cf K ads H ao ks
 | .dF ao=>∃o ks,H a=some (.fP o (.dT ks))/\cf K ads H ao ks
 | .dG ao=>∃o ks,H a=some (.fP o (.dK ks))/\cf K ads H ao ks
 | .xc C fs=>False
structure aM (M:af):Prop where
 nd:∀(i j:Nat)(a:Addr),ads[i]?=some a->ads[j]?=some a->i=j\/∃C fs,M[i]?=some (.xc C fs)
 len:ads.length=M.length
 obj:∀(n:Nat)(o:MO)(a:Addr),M[n]?=some o->ads[n]?=some a->Li K ads H a o
def O6(ρ:En)(σ:L2.St):Prop:=∀(i:Nat)(d:D),ρ[i]?=some (some d)->∃v,σ[i]?=some (some v)/\RD K ads H d v
def RW:W->V->Prop
 | .d x,v=>RD K ads H x v
 | .lv ds,v=>∃a xs,v=.ref a/\H a=some (.lst xs)/\a∉ads/\aH K ads H ds xs
end
def Kept(ads:List Addr)(H H':Hp):Prop:=∀b o,b∉ads->H b=some o->H' b=some o
noncomputable def O7(H H':Hp):Prop:=∀b xs,H b=some (.tup xs)->H' b=some (.tup xs)
structure ay (ads aq:List Addr) (H H':Hp):Prop where
 pre:∃r,aq=ads++r
 new:∀b∈aq,b∉ads->H b=none
 kept:Kept ads H H'
 fQ:O7 H H'
 fP:∀b o u,H b=some (.fP o u)->H' b=some (.fP o u)
theorem ay.refl(ads:List Addr)(H:Hp):ay ads ads H H:=⟨⟨[],by simp⟩,λb h n=>absurd h n,λ_ _ _ h=>h,λ_ _ h=>h,λ_ _ _ h=>h⟩
theorem ay.trans{a b c:List Addr}{H H1 H2:Hp}(g:ay a b H H1)(k:ay b c H1 H2):ay a c H H2:=by
 obtain⟨r,e⟩:=g.pre;obtain⟨r',e'⟩:=k.pre;refine⟨⟨r++r',by rw[e',e,jM]⟩,λx h n=>?_,λx o n h=>?_,λx xs h=>k.fQ x xs (g.fQ x xs h),λx o u h=>k.fP x o u (g.fP x o u h)⟩
 ·by_cases hb:x∈b
  ·exact g.new x hb n
  ·have:=k.new x h hb
   cases q:H x with
   | none=>rfl
   | some o=>rw[g.kept x o n q]at this;cases this
 ·refine k.kept x o (λhb=>?_) (g.kept x o n h);rw[g.new x hb n]at h;cases h
class EX where
 post:PySem.W.Frag->List Addr->Hp->yR->af->Prop
 shift:∀{K:PySem.W.Frag}{ads aq:List Addr}{H H':Hp}{x:yR}{M:af},post K ads H x M->ay ads aq H H'->post K aq H' x M
@[reducible] noncomputable def never:EX:=⟨λ_ _ _ _ _=>False,λh _=>h⟩
instance (priority:=low) Rz:EX:=never
@[reducible] noncomputable def B5(E:XK):EX:=⟨λK ads H x M=>∀H' aq dx fs,ay ads aq H H'->aM K aq H' M->H' dx=some (.xd fs)->cf K aq H' x.fs fs->E (.ref x.cls) (some dx) H',λh g H1 ag dx fs g1 m1 e r=>h H1 ag dx fs (g.trans g1) m1 e r⟩
section
variable {K:PySem.W.Frag} {ads aq:List Addr} {H H':Hp}
theorem ay.get(g:ay ads aq H H'){n:Nat}{a:Addr}(h:ads[n]?=some a):aq[n]?=some a:=by
 obtain⟨r,e⟩:=g.pre;rw[e,fL (by have:=(dq.mp h).1;exact this)];exact h
theorem ay.i9(g:ay ads aq H H'){a:Addr}{xs:List V}(h:pF K H a xs):pF K H' a xs:=by
 rcases h with⟨o,h⟩ | h
 ·exact .inl ⟨o,g.fP _ _ _ h⟩
 ·exact .inr h
mutual
theorem ay.rd(g:ay ads aq H H'):∀(d:D)(v:V),RD K ads H d v->RD K aq H' d v
 | .ba,_,h=>by unfold RD at *;exact h
 | .bl _,_,h=>by unfold RD at *;exact h
 | .int _,_,h=>by unfold RD at *;exact h
 | .str _,_,h=>by unfold RD at *;exact h
 | .aB n,v,h=>by unfold RD at *;obtain⟨a,e,h⟩:=h;exact⟨a,e,g.get h⟩
 | .tup ds,v,h=>by unfold RD at *;obtain⟨a,xs,e,h,r⟩:=h;exact⟨a,xs,e,g.fQ _ _ h,ay.l9 g ds xs r⟩
 | .ls ds,v,h=>by unfold RD at *;obtain⟨a,xs,e,h,r⟩:=h;exact⟨a,xs,e,g.i9 h,ay.l9 g ds xs r⟩
 | .fn _,_,h=>by unfold RD at *;exact h
 | .tg ds,v,h=>by unfold RD at *;obtain⟨a,xs,e,h,r⟩:=h;exact⟨a,xs,e,h,ay.l9 g ds xs r⟩
theorem ay.l9(g:ay ads aq H H'):∀(ds:List D)(vs:List V),aH K ads H ds vs->aH K aq H' ds vs
 | [],_,h=>by unfold aH at *;exact h
 | d::ds,vs,h=>by unfold aH at *;obtain⟨x,r,e,h1,h2⟩:=h;exact⟨x,r,e,ay.rd g d x h1,ay.l9 g ds r h2⟩
end
theorem ay.yS{κ:Type}(g:ay ads aq H H'):∀(ds:List (κ×D))(vs:List (κ×V)),cf K ads H ds vs->cf K aq H' ds vs
 | [],_,h=>by unfold cf at *;exact h
 | d::ds,vs,h=>by unfold cf at *;obtain⟨x,r,e,h0,h1,h2⟩:=h;exact⟨x,r,e,h0,g.rd d.2 x.2 h1,ay.yS g ds r h2⟩
theorem ay.Wr(g:ay ads aq H H'){ρ:En}{σ:L2.St}(h:O6 K ads H ρ σ):O6 K aq H' ρ σ:=λi d e=>by
 obtain⟨v,e1,r⟩:=h i d e;exact⟨v,e1,g.rd d v r⟩
theorem ay.fj(g:ay ads aq H H'){a:Addr}{o:HO}(n:a∉ads)(e:H a=some o):a∉aq:=λh=>by
 rw[g.new a h n]at e;cases e
theorem ay.rw(g:ay ads aq H H'){w:W}{v:V}(h:RW K ads H w v):RW K aq H' w v:=by
 cases w with
 | d x=>exact g.rd x v h
 | lv ds =>
  obtain⟨a,xs,e,h,n,r⟩:=h;exact⟨a,xs,e,g.kept a _ n h,g.fj n h,g.l9 ds xs r⟩
theorem aH.len:∀{ds:List D}{vs:List V},aH K ads H ds vs->ds.length=vs.length
 | [],_,h=>by unfold aH at h;subst h;rfl
 | d::ds,vs,h=>by unfold aH at h;obtain⟨x,r,e,h1,h2⟩:=h;subst e;simp[aH.len h2]
theorem aH.get:∀{ds:List D}{vs:List V}{i:Nat}{d:D},aH K ads H ds vs->ds[i]?=some d->∃v,vs[i]?=some v/\RD K ads H d v
 | [],_,_,_,h,e=>by simp at e
 | d::ds,vs,0,d',h,e=>by unfold aH at h;obtain⟨x,r,rfl,h1,h2⟩:=h;simp at e;subst e;exact⟨x,rfl,h1⟩
 | d::ds,vs,i+1,d',h,e=>by
  unfold aH at h;obtain⟨x,r,rfl,h1,h2⟩:=h;obtain⟨v,e',r'⟩:=aH.get (i:=i) h2 (by simpa using e);exact⟨v,by simpa using e',r'⟩
theorem aH.app:∀{ds es:List D}{vs ws:List V},aH K ads H ds vs->aH K ads H es ws->aH K ads H (ds++es) (vs++ws)
 | [],_,vs,_,h,k=>by unfold aH at h;subst h;exact k
 | d::ds,es,vs,ws,h,k=>by
  unfold aH at h;obtain⟨x,r,rfl,h1,h2⟩:=h;show aH K ads H (d::(ds++es)) (x::(r++ws));unfold aH;exact⟨x,_,rfl,h1,aH.app h2 k⟩
theorem aH.one{d:D}{v:V}(h:RD K ads H d v):aH K ads H [d] [v]:=by
 unfold aH;exact⟨v,[],rfl,h,by unfold aH;rfl⟩
theorem aH.take:∀{ds:List D}{vs:List V}(n:Nat),aH K ads H ds vs->aH K ads H (ds.take n) (vs.take n)
 | _,_,0,_=>by simp;unfold aH;rfl
 | [],vs,n+1,h=>by unfold aH at h;subst h;simp;unfold aH;rfl
 | d::ds,vs,n+1,h=>by unfold aH at h;obtain⟨x,r,rfl,h1,h2⟩:=h;simp only[List.take_succ_cons];unfold aH;exact⟨x,_,rfl,h1,aH.take n h2⟩
theorem aH.drop:∀{ds:List D}{vs:List V}(n:Nat),aH K ads H ds vs->aH K ads H (ds.drop n) (vs.drop n)
 | _,_,0,h=>by simpa using h
 | [],vs,n+1,h=>by unfold aH at h;subst h;simp;unfold aH;rfl
 | d::ds,vs,n+1,h=>by unfold aH at h;obtain⟨x,r,rfl,h1,h2⟩:=h;simp only[wt];exact aH.drop n h2
theorem aH.setAt:∀{ds:List D}{vs:List V}(n:Nat){d:D}{v:V},aH K ads H ds vs->RD K ads H d v->aH K ads H (ds.set n d) (vs.set n v)
 | [],vs,n,_,_,h,_=>by unfold aH at h;subst h;simp;unfold aH;rfl
 | d::ds,vs,0,_,_,h,k=>by unfold aH at h;obtain⟨x,r,rfl,h1,h2⟩:=h;simp only[List.set_cons_zero];unfold aH;exact⟨_,_,rfl,k,h2⟩
 | d::ds,vs,n+1,_,_,h,k=>by unfold aH at h;obtain⟨x,r,rfl,h1,h2⟩:=h;simp only[List.set_cons_succ];unfold aH;exact⟨_,_,rfl,h1,aH.setAt n h2 k⟩
theorem aM.there{M:af}(m:aM K ads H M){a:Addr}(h:a∈ads):∃o,H a=some o/\∀xs,o≠.tup xs:=by
 obtain⟨n,hn,e⟩:=Be.mp h;have e2:ads[n]?=some a:=by rw[fx hn,e]
 have hM:n<M.length:=by rw[<- m.len];exact hn
 have h:=m.obj n M[n] a (fx hM) e2
 cases q:M[n]with
 | lst ds=>rw[q]at h;obtain⟨xs,h,r⟩:=h;exact⟨_,h,λ_ z=>by cases z⟩
 | i9 ds=>rw[q]at h;obtain⟨o,xs,h,r⟩:=h;exact⟨_,h,λ_ z=>by cases z⟩
 | dK ds=>rw[q]at h;obtain⟨xs,h,r⟩:=h;exact⟨_,h,λ_ z=>by cases z⟩
 | dT ds=>rw[q]at h;obtain⟨xs,h,r⟩:=h;exact⟨_,h,λ_ z=>by cases z⟩
 | dF ds=>rw[q]at h;obtain⟨o,xs,h,r⟩:=h;exact⟨_,h,λ_ z=>by cases z⟩
 | dG ds=>rw[q]at h;obtain⟨o,xs,h,r⟩:=h;exact⟨_,h,λ_ z=>by cases z⟩
 | xc C ds=>rw[q]at h;exact h.elim
theorem aM.grow{M:af}(m:aM K ads H M)(g:ay ads ads H H')(k:∀a∈ads,H' a=H a):aM K ads H' M:=⟨m.nd,m.len,λn o a e1 e2=>by
 have h:=m.obj n o a e1 e2;have ha:=k a (cT e2)
 cases o with
 | lst ds=>obtain⟨xs,h,r⟩:=h;exact⟨xs,ha.trans h,g.l9 _ _ r⟩
 | i9 ds=>obtain⟨o,xs,h,r⟩:=h;exact⟨o,xs,ha.trans h,g.l9 _ _ r⟩
 | dK ds=>obtain⟨xs,h,r⟩:=h;exact⟨xs,ha.trans h,g.yS _ _ r⟩
 | dT ds=>obtain⟨xs,h,r⟩:=h;exact⟨xs,ha.trans h,g.yS _ _ r⟩
 | dF ds=>obtain⟨o,xs,h,r⟩:=h;exact⟨o,xs,ha.trans h,g.yS _ _ r⟩
 | dG ds=>obtain⟨o,xs,h,r⟩:=h;exact⟨o,xs,ha.trans h,g.yS _ _ r⟩
 | xc C ds=>exact h.elim⟩
theorem aM.fresh{M:af}(m:aM K ads H M){p:Addr}(h:H p=none):p∉ads:=λz=>by
 obtain⟨o,e,_⟩:=m.there z;rw[h]at e;cases e
theorem ay.gc{M:af}(m:aM K ads H M){p:Addr}{o:HO}(h:H p=none):ay ads ads H (bH H p o) :=
 ⟨⟨[],by simp⟩,λb h n=>absurd h n,λb u n e=>by rw[ax (λz=>by subst z;rw[h]at e;cases e)];exact e,λb xs e=>by rw[ax (λz=>by subst z;rw[h]at e;cases e)];exact e,λb u x e=>by rw[ax (λz=>by subst z;rw[h]at e;cases e)];exact e⟩
theorem aM.gc{M:af}(m:aM K ads H M){p:Addr}{o:HO}(h:H p=none):aM K ads (bH H p o) M :=
 m.grow (ay.gc m h) λa ha=>ax (λz=>by subst z;exact m.fresh h ha)
mutual
theorem RD.wide{a:Addr}:∀(d:D)(v:V),RD K ads H d v->RD K (ads++[a]) H d v
 | .ba,_,h=>by unfold RD at *;exact h
 | .bl _,_,h=>by unfold RD at *;exact h
 | .int _,_,h=>by unfold RD at *;exact h
 | .str _,_,h=>by unfold RD at *;exact h
 | .aB n,v,h=>by
  unfold RD at *;obtain⟨b,e,h⟩:=h;exact⟨b,e,by rw[fL (dq.mp h).1];exact h⟩
 | .tup ds,v,h=>by unfold RD at *;obtain⟨b,xs,e,h,r⟩:=h;exact⟨b,xs,e,h,aH.wide ds xs r⟩
 | .ls ds,v,h=>by unfold RD at *;obtain⟨b,xs,e,h,r⟩:=h;exact⟨b,xs,e,h,aH.wide ds xs r⟩
 | .fn _,_,h=>by unfold RD at *;exact h
 | .tg ds,v,h=>by unfold RD at *;obtain⟨a,xs,e,h,r⟩:=h;exact⟨a,xs,e,h,aH.wide ds xs r⟩
theorem aH.wide{a:Addr}:∀(ds:List D)(vs:List V),aH K ads H ds vs->aH K (ads++[a]) H ds vs
 | [],_,h=>by unfold aH at *;exact h
 | d::ds,vs,h=>by unfold aH at *;obtain⟨x,r,e,h1,h2⟩:=h;exact⟨x,r,e,RD.wide d x h1,aH.wide ds r h2⟩
end
theorem cf.wide{κ:Type}{a:Addr}:∀(ds:List (κ×D))(vs:List (κ×V)),cf K ads H ds vs->cf K (ads++[a]) H ds vs
 | [],_,h=>by unfold cf at *;exact h
 | d::ds,vs,h=>by unfold cf at *;obtain⟨x,r,e,h0,h1,h2⟩:=h;exact⟨x,r,e,h0,RD.wide d.2 x.2 h1,cf.wide ds r h2⟩
theorem Li.wide{a b:Addr}{o:MO}(h:Li K ads H b o):Li K (ads++[a]) H b o:=by
 cases o with
 | lst ds=>obtain⟨xs,h,r⟩:=h;exact⟨xs,h,r.wide⟩
 | i9 ds=>obtain⟨o,xs,h,r⟩:=h;exact⟨o,xs,h,r.wide⟩
 | dK ds=>obtain⟨xs,h,r⟩:=h;exact⟨xs,h,r.wide⟩
 | dT ds=>obtain⟨xs,h,r⟩:=h;exact⟨xs,h,r.wide⟩
 | dF ds=>obtain⟨o,xs,h,r⟩:=h;exact⟨o,xs,h,r.wide⟩
 | dG ds=>obtain⟨o,xs,h,r⟩:=h;exact⟨o,xs,h,r.wide⟩
 | xc C ds=>exact h.elim
theorem aM.push{M:af}{o:MO}{a:Addr}(m:aM K ads H M)(n:a∉ads)(h:Li K ads H a o):aM K (ads++[a]) H (M++[o]) where
 nd:=λi j b e1 e2=>by
  have li:=(dq.mp e1).1;have lj:=(dq.mp e2).1;rw[cz,List.length_singleton]at li lj;have old:∀k,k<ads.length->(ads++[a])[k]?=some b->ads[k]?=some b:=λk hk e=>by rw[fL hk]at e;exact e
  have new:∀k,¬k<ads.length->k<ads.length+1->(ads++[a])[k]?=some b->b=a:=λk hk Lj e=>by
   obtain rfl:k=ads.length:=∅;rw[lT (a7 _)]at e;simp at e;exact e.symm
  by_cases hi:i<ads.length
  ·by_cases hj:j<ads.length
   ·rcases m.nd i j b (old i hi e1) (old j hj e2)with z | ⟨C,fs,z⟩
    ·exact .inl z
    ·exact .inr ⟨C,fs,by rw[fL (by rw[<- m.len];exact hi)];exact z⟩
   ·obtain rfl:=new j hj lj e2;exact absurd (cT (old i hi e1)) n
  ·obtain rfl:=new i hi li e1;by_cases hj:j<ads.length
   ·exact absurd (cT (old j hj e2)) n
   ·exact .inl ∅
 len:=by simp[m.len]
 obj:=λi o' b e1 e2=>by
  by_cases hi:i<M.length
  ·rw[fL hi]at e1;rw[fL (by rw[m.len];exact hi)]at e2;exact(m.obj i o' b e1 e2).wide
  ·have Yu:i=M.length:=by
    have:=(dq.mp e1).1;simp at this;omega
   subst Yu;rw[lT (a7 _)]at e1;rw[lT (by rw[m.len];exact a7 _)]at e2;simp[m.len]at e1 e2;subst e1 e2;exact h.wide
theorem aM.write{M:af}{n:Nat}{a:Addr}{u o:MO}{ho:HO}(m:aM K ads H M)(e:M[n]?=some u)(ea:ads[n]?=some a)(nf:∀o x,H a≠some (.fP o x))(hn:Li K ads (bH H a ho) a o)(hu:∀C fs,u≠.xc C fs:=by intro _ _ z;cases z):ay ads ads H (bH H a ho)/\aM K ads (bH H a ho) (M.set n o):=by
  have Ie:a∈ads:=cT ea;obtain⟨o1,e1,nt⟩:=m.there Ie
  have g : ay ads ads H (bH H a ho) := ⟨⟨[], by simp⟩, fun b h n => absurd h n, fun b x nb h => by rw [ax (by intro z; subst z; exact nb Ie)]; exact h, fun b xs h => by
      rw[ax (λz=>by subst z;rw[e1]at h;exact nt xs (cH h))];exact h,λb o u h=>by rw[ax (λz=>by subst z;exact nf _ _ h)];exact h⟩
  have ne:∀(i:Nat)(o':MO)(b:Addr),i≠n->M[i]?=some o'->ads[i]?=some b->b≠a:=λi o' b hi x1 x2 z=>by
    subst z;rcases m.nd n i b ea x2 with q | ⟨C,fs,q⟩
    · exact hi q.symm
    · rw[e]at q;exact hu C fs (cH q)
  refine⟨g,λi j b x1 x2=>?_,by rw[lW];exact m.len,λi o' b x1 x2=>?_⟩
  · rcases m.nd i j b x1 x2 with z | ⟨C,fs,z⟩
    · exact .inl z
    · refine .inr ⟨C,fs,?_⟩;rw[oN (λq=>?_)]
      · exact z
      · subst q;rw[e]at z;exact hu C fs (cH z)
  by_cases hi:i=n
  · subst hi;rw[ea]at x2;cases x2;rw[uF (dq.mp e).1]at x1;cases x1;exact hn
  · rw[oN (ig hi)]at x1;have hb:b≠a:=ne i o' b hi x1 x2;have h:=m.obj i o' b x1 x2
    cases o' with
    | lst ds=>obtain⟨xs,h,r⟩:=h;exact⟨xs,by rw[ax hb];exact h,g.l9 _ _ r⟩
    | i9 ds=>obtain⟨o,xs,h,r⟩:=h;exact⟨o,xs,by rw[ax hb];exact h,g.l9 _ _ r⟩
    | dK ds=>obtain⟨xs,h,r⟩:=h;exact⟨xs,by rw[ax hb];exact h,g.yS _ _ r⟩
    | dT ds=>obtain⟨xs,h,r⟩:=h;exact⟨xs,by rw[ax hb];exact h,g.yS _ _ r⟩
    | dF ds=>obtain⟨o,xs,h,r⟩:=h;exact⟨o,xs,by rw[ax hb];exact h,g.yS _ _ r⟩
    | dG ds=>obtain⟨o,xs,h,r⟩:=h;exact⟨o,xs,by rw[ax hb];exact h,g.yS _ _ r⟩
    | xc C ds=>exact h.elim
end
mutual
noncomputable def eG(M:af):Nat->D->Option PyData
 | _,.ba=>some .none
 | _,.bl b=>some (.bool b)
 | _,.int i=>some (.int i)
 | _,.str s=>some (.str s)
 | _,.fn _=>none
 | _,.tg _=>none
 | 0,.tup _=>none
 | 0,.aB _=>none
 | 0,.ls _=>none
 | n+1,.ls ds=>(cw M n ds).map .list
 | n+1,.tup ds=>(cw M n ds).map .tuple
 | n+1,.aB k=>match M[k]? with
  | some (.lst ds)=>(cw M n ds).map .list
  | some (.i9 ds)=>(cw M n ds).map .list
  | _=>none
noncomputable def cw(M:af):Nat->List D->Option (List PyData)
 | _,[]=>some []
 | n,d::ds=>match eG M n d,cw M n ds with
  | some p,some ps=>some (p::ps)
  | _,_=>none
end
def jZ(M:af):W->Option PyData
 | .d x=>eG M 30 x
 | .lv ds=>(cw M 30 ds).map .list
inductive AO where
 | add | sub | mul | fdiv | mod | pow
 deriving DecidableEq
inductive vE where
 | eq | ne | lt | le | gt | ge | isN | notN | isin | fj | O8
 deriving DecidableEq
inductive Ty where
 | int | bool | str | tuple | list | dict | none
 deriving DecidableEq
inductive Bi where
 | len | max2 | min2 | kK | list1 | tuple1 | s_ | i_ (t:Ty) | all1 | B6 | tf | min1 | B7 | tj | str1
 deriving DecidableEq
inductive Me where
 | append | insert | reverse | extend | remove | clear | pop
 deriving DecidableEq
inductive SK where
 | seq | rng1 | rng2 | enum | zip | B8 | keys | vals
 deriving DecidableEq
inductive IX where
 | one (x:Str) | ve | many (xs:List Str)
 deriving DecidableEq
abbrev rA:=List (Str×List Addr×Option Addr)
noncomputable def RA(p:List Addr×Option Addr):D:=.tg [.tg (p.1.map D.fn),match p.2 with
 | some a=>.fn a
 | none=>.ba]
set_option genCtorIdx false in
mutual
inductive C where
 | eZ (i:Nat)
 | a8 (d:D)
 | bin (op:AO) (a b:C)
 | cmp (op:vE) (a b:C)
 | chain (o1 o2:vE) (a b c:C)
 | dS (cs:List C) | dJ (cs:List C) | neg (a:C)
 | ite (c:dU) (a b:C)
 | tup (cs:List C) | lst (cs:List C)
 | sub (a b:C)
 | pG (a:C) (lo hi:Option C)
 | call (f:Nat) (cs:List C)
 | bi (b:Bi) (cs:List C)
 | me (m:Me) (o:C) (cs:List C)
 | wg (ks:List Str) (cs:List C)
 | iZ (tp:Bool) (cs:List C)
 | vF (x:Str) (v:Int)
 | l_ (ng:Bool) (a:C)
 | vG (cS:Str) (a:C)
 | pH (pt:Bool) (a b:C)
 | wj (lit:Str) (a b:C)
 | cat (a b:C)
 | iA (x:Str) (tt:rA) (b:C)
 | vH (y:Str) (a:Addr)
 | rB (x:Str) (v:Str)
 | dM (i:Nat) (tb:List (Addr×Nat)) (cs:List C)
 | xf (a:C) (f:Str)
 | B9 (a:C) (k:IX) (tb:List (Addr×Bool))
 | jG (f:Nat) (cs:List C)
 | comp (k:SK) (cU:List C) (tg:List Nat) (cond:Option dU) (elt:C) (cx:List (Option Nat))
inductive dU where
 | val (c:C) | dS (ts:List dU) | dJ (ts:List dU) | neg (a:dU)
end
instance (n:Nat):OfNat C n:=⟨.eZ n⟩
abbrev C.kn(k:Int):C:=.a8 (.int k)
abbrev C.ks(i:Nat)(k:Int):C:=.sub (.eZ i) (.a8 (.int k))
noncomputable def b_(M:af):W->Option (Bool×List D)
 | .lv ds=>some (true,ds)
 | .d (.tup ds)=>some (false,ds)
 | .d (.ls ds)=>some (true,ds)
 | .d (.aB n)=>match M[n]? with
  | some (.lst ds)=>some (true,ds)
  | some (.i9 ds)=>some (true,ds)
  | _=>none
 | _=>none
noncomputable def eu(M:af):W->Option (List D)
 | .lv ds=>some ds
 | .d (.aB n)=>match M[n]? with
  | some (.lst ds)=>some ds
  | _=>none
 | _=>none
noncomputable def own:W->af->bE D
 | .d x,M=>.ok x M
 | .lv ds,M=>.ok (.aB M.length) (M++[.lst ds])
def FC(ds:List D)(i:Int):Option D:=oG ds i
def cutD(ds:List D)(lo hi:Option Int):List D:=(ds.drop (HT.cF ds.length 0 lo)).take (HT.cF ds.length ds.length hi-HT.cF ds.length 0 lo)
def pI(op:AO)(a b:W)(M:af):bE W :=
 match op,a,b with
 | .add,.d (.int i),.d (.int j)=>.ok (.d (.int (i+j))) M
 | .sub,.d (.int i),.d (.int j)=>.ok (.d (.int (i-j))) M
 | .mul,.d (.int i),.d (.int j)=>if (-(2 ^ 64)<i/\i<2 ^ 64)\/(-(2 ^ 64)<j/\j<2 ^ 64) then .ok (.d (.int (i*j))) M else .aa
 | .fdiv,.d (.int i),.d (.int j)=>if 0<j/\j<1073741824 then .ok (.d (.int (i / j))) M else .aa
 | .mod,.d (.int i),.d (.int j)=>if 0<j then .ok (.d (.int (i % j))) M else .aa
 | .pow,.d (.int i),.d (.int j)=>if 0<=j/\j<=1000000/\i.natAbs<2 ^ 64 then .ok (.d (.int (i ^ j.toNat))) M else .aa
 | .add,.d (.tup xs),.d (.tup ys)=>if xs.length+ys.length<=sizeLine then .ok (.d (.tup (xs++ys))) M else .aa
 | .add,a,b=>match eu M a,eu M b with
  | some xs,some ys=>if xs.length+ys.length<=sizeLine then .ok (.lv (xs++ys)) M else .aa
  | _,_=>.aa
 | .mul,.d (.tup xs),.d (.int k)=>if -(2 ^ 63)<=k/\k<2 ^ 63/\xs.length*k.toNat<=sizeLine then .ok (.d (.tup (List.replicate k.toNat xs).flatten)) M else .aa
 | .mul,a,.d (.int k)=>match eu M a with
  | some xs=>if -(2 ^ 63)<=k/\k<2 ^ 63/\xs.length*k.toNat<=sizeLine then .ok (.lv (List.replicate k.toNat xs).flatten) M else .aa
  | none=>.aa
 | _,_,_=>.aa
noncomputable def pJ(p:PyData):List PyData->Bool
 | []=>false
 | q::qs=>PyData.eqv q p||pJ p qs
noncomputable def O9(M:af):W->Option (List (bZ×D))
 | .d (.aB n)=>match M[n]? with
  | some (.dK ao)=>some ao
  | some (.dG ao)=>some ao
  | _=>none
 | _=>none
noncomputable def O_{κ:Type}[DecidableEq κ](ao:List (κ×D))(k:κ):Option D:=(ao.find? λp=>decide (p.1=k)).map (·.2)
def bD(op:vE)(a b:W)(M:af):bE Bool :=
 match op with
 | .eq=>match jZ M a,jZ M b with
  | some p,some q=>if SeqAt.shaped p=true/\SeqAt.shaped q=true then .ok (PyData.eqv p q) M else .aa
  | _,_=>.aa
 | .ne=>match jZ M a,jZ M b with
  | some p,some q=>if SeqAt.shaped p=true/\SeqAt.shaped q=true then .ok (!PyData.eqv p q) M else .aa
  | _,_=>.aa
 | .lt=>match a,b with
  | .d (.int i),.d (.int j)=>.ok (decide (i<j)) M
  | .d (.str x),.d (.str y)=>.ok (decide (x.cps.toList<y.cps.toList)) M
  | _,_=>.aa
 | .le=>match a,b with
  | .d (.int i),.d (.int j)=>.ok (decide (i<=j)) M
  | .d (.str x),.d (.str y)=>.ok (!decide (y.cps.toList<x.cps.toList)) M
  | _,_=>.aa
 | .gt=>match a,b with
  | .d (.int i),.d (.int j)=>.ok (decide (j<i)) M
  | _,_=>.aa
 | .ge=>match a,b with
  | .d (.int i),.d (.int j)=>.ok (decide (j<=i)) M
  | _,_=>.aa
 | .isN=>match a with
  | .d .ba=>.ok true M
  | _=>.ok false M
 | .notN=>match a with
  | .d .ba=>.ok false M
  | _=>.ok true M
 | .isin=>.aa
 | .fj=>match jZ M a,b_ M b with
  | some p,some (_,ds)=>match cw M 30 ds with
   | some qs=>if SeqAt.shaped p=true/\qs.all SeqAt.shaped=true then .ok (!pJ p qs) M else .aa
   | none=>.aa
  | _,_=>.aa
 | .O8=>match a,b with
  | .d (.str x),.d (.str y)=>.ok (!(Builtin.Str.occurrences y x 0 y.length 1).isEmpty) M
  | _,_=>.aa
def md(M:af):W->Option Bool
 | .d .ba=>some false
 | .d (.bl b)=>some b
 | .d (.int i)=>some (i != 0)
 | w=>(b_ M w).map λp=>!p.2.isEmpty
def dN(a b:W)(M:af):bE W :=
  match b with
  | .d (.int i)=>match b_ M a with
    | some (_,ds)=>match FC ds i with
      | some d=>.ok (.d d) M
      | none=>.aa
    | none=>match a with
      | .d (.str s) => if s.length <= sizeLine then match oG s.cps.toList i with
          | some c=>.ok (.d (.str ⟨#[c]⟩)) M
          | none=>.aa
        else .aa
      | .d (.tg ds)=>match FC ds i with
        | some d=>.ok (.d d) M
        | none=>.aa
      | .d (.aB n)=>match M[n]? with
        | some (.dK ao)=>match O_ ao (Sum.inl i:bZ)with
          | some d=>.ok (.d d) M
          | none=>.aa
        | some (.dG ao)=>match O_ ao (Sum.inl i:bZ)with
          | some d=>.ok (.d d) M
          | none=>.aa
        | _=>.aa
      | _=>.aa
  | .d (.str k)=>match a with
    | .d (.aB n)=>match M[n]? with
      | some (.dK ao)=>match (ao.find? λp=>decide (p.1=(Sum.inr k:bZ))).map (·.2)with
        | some d=>.ok (.d d) M
        | none=>.aa
      | _=>.aa
    | _=>.aa
  | _=>.aa
def kM(a:W)(lo hi:Option Int)(M:af):bE W :=
 match b_ M a with
 | some (true,ds)=>.ok (.lv (cutD ds lo hi)) M
 | some (false,ds)=>.ok (.d (.tup (cutD ds lo hi))) M
 | none=>.aa
noncomputable def B_(M:af):W->Option Ty
 | .lv _=>some .list
 | .d .ba=>some .none
 | .d (.bl _)=>some .bool
 | .d (.int _)=>some .int
 | .d (.str _)=>some .str
 | .d (.tup _)=>some .tuple
 | .d (.ls _)=>none
 | .d (.fn _)=>none
 | .d (.tg _)=>none
 | .d (.aB n)=>match M[n]? with
  | some (.lst _)=>some .list
  | some (.i9 _)=>some .list
  | some (.dK _)=>some .dict
  | some (.dT _)=>some .dict
  | some (.dF _)=>none
  | some (.dG _)=>none
  | some (.xc _ _)=>none
  | none=>none
noncomputable def pK:List D->Option (List Bool)
 | []=>some []
 | .bl b::ds=>(pK ds).map (b::·)
 | _::_=>none
noncomputable def pL:List D->Option (List Int)
 | []=>some []
 | .int b::ds=>(pL ds).map (b::·)
 | _::_=>none
noncomputable def pM{κ:Type}[DecidableEq κ](ao:List (κ×D))(k:κ)(v:D):List (κ×D) :=
 if (ao.any λkv=>decide (kv.1=k))=true then ao.map (λkv=>if kv.1=k then (kv.1,v) else kv) else ao++[(k,v)]
noncomputable def pairD:D->Option (bZ×D)
 | .tup [.int i,d]=>some (Sum.inl i,d)
 | .tup [.str x,d]=>some (Sum.inr x,d)
 | _=>none
def Pa(aA:List (bZ×D)):List D->Option (List (bZ×D))
 | []=>some aA
 | d::ds=>match pairD d with
  | some (k,x)=>Pa (pM aA k x) ds
  | none=>none
noncomputable def kD:bZ->D
 | .inl i=>.int i
 | .inr x=>.str x
noncomputable def Pb(p:List bZ×D):D:=.tup (p.1.map kD)
def Pc(p:bZ×D):D:=kD p.1
noncomputable def yT:List D->Option (List bZ)
 | []=>some []
 | .int i::ds=>(yT ds).map (Sum.inl i::·)
 | .str x::ds=>(yT ds).map (Sum.inr x::·)
 | _::_=>none
def T7:W->Option (List bZ)
 | .d (.tup ds)=>yT ds
 | _=>none
noncomputable def Yv(M:af):W->Option (List (List bZ×D))
 | .d (.aB n)=>match M[n]? with
  | some (.dT ao)=>some ao
  | some (.dF ao)=>some ao
  | _=>none
 | _=>none
noncomputable def Ws:List (List bZ×D)->Option (List (Int×Int))
 | []=>some []
 | ([.inl i,.inl j],_)::r=>(Ws r).map ((i,j)::·)
 | _=>none
noncomputable def Wt(k:Int×Int):D:=.tup [.int k.1,.int k.2]
noncomputable def FD:List (bZ×D)->Option (List Int)
 | []=>some []
 | (.inl i,_)::r=>(FD r).map (i::·)
 | _=>none
def Pd(w:W)(M:af):bE W:=match O9 M w with
 | some ao=>match FD ao with
  | some is=>if is.length<64 then .ok (.lv ((L2.Ia is).map D.int)) M else .aa
  | none=>.aa
 | none=>.aa
def Pe(w:W)(M:af):bE W:=match Yv M w with
 | some ao=>match Ws ao with
  | some ks=>if ks.length<128 then .ok (.lv ((O3 ks).map Wt)) M else .aa
  | none=>.aa
 | none=>Pd w M
noncomputable def Pf:List D->Option (List (Int×Int))
 | []=>some []
 | .tup [.int i,.int j]::ds=>(Pf ds).map ((i,j)::·)
 | _=>none
noncomputable def Yw(p:Int×Int)(ps:List (Int×Int)):Int×Int:=ps.foldl (λa b=>if TZ a b then b else a) p
noncomputable def T8(ds:List D)(M:af):bE W:=match Pf ds with
 | some (p::ps)=>.ok (.d (Wt (Yw p ps))) M
 | _=>.aa
def ja(b:Bi)(ws:List W)(M:af):bE W :=
 match b,ws with
 | .len,[w]=>match b_ M w with
  | some (_,ds)=>.ok (.d (.int ds.length)) M
  | none=>match w with
   | .d (.str x)=>if x.length<=sizeLine then .ok (.d (.int x.length)) M else .aa
   | .d (.tg ds)=>.ok (.d (.int ds.length)) M
   | _=>.aa
 | .all1,[w]=>match b_ M w with
  | some (_,ds)=>match pK ds with
   | some bs=>.ok (.d (.bl (bs.all id))) M
   | none=>.aa
  | none=>.aa
 | .B6,[w]=>match b_ M w with
  | some (_,ds)=>match pK ds with
   | some bs=>.ok (.d (.bl (bs.any id))) M
   | none=>.aa
  | none=>.aa
 | .tj,[w]=>match b_ M w with
  | some (_,ds)=>match pL ds with
   | some is=>if is.length<64 then .ok (.lv ((L2.Ia is).map D.int)) M else .aa
   | none=>.aa
  | _=>Pe w M
 | .min1,[w]=>match b_ M w with
  | some (_,ds)=>match pL ds with
   | some (i::is)=>.ok (.d (.int (is.foldl (λa b=>if b<a then b else a) i))) M
   | _=>.aa
  | none=>.aa
 | .B7,[w]=>match b_ M w with
  | some (_,ds)=>match pL ds with
   | some (i::is)=>.ok (.d (.int (is.foldl (λa b=>if a<b then b else a) i))) M
   | some []=>.aa
   | none=>T8 ds M
  | none=>.aa
 | .max2,[.d (.int i),.d (.int j)]=>.ok (.d (.int (if j>i then j else i))) M
 | .min2,[.d (.int i),.d (.int j)]=>.ok (.d (.int (if j<i then j else i))) M
 | .kK,[.d (.int i)]=>.ok (.d (.int i)) M
 | .kK,[.d (.bl k)]=>.ok (.d (.int (if k then 1 else 0))) M
 | .kK,[.d (.str y)]=>match PySem.intText? y with
  | some n=>if y.length<=640 then .ok (.d (.int n)) M else .aa
  | none=>.aa
 | .list1,[w]=>match b_ M w with
  | some (_,ds)=>.ok (.lv ds) M
  | none=>.aa
 | .tuple1,[w]=>match b_ M w with
  | some (_,ds)=>.ok (.d (.tup ds)) M
  | none=>.aa
 | .str1,[.d (.int i)]=>if i.natAbs.log2<1920 then .ok (.d (.str (Str.ofString (toString i)))) M else .aa
 | .str1,[.d (.str x)]=>.ok (.d (.str x)) M
 | .s_,[w]=>match jZ M w with
  | some p=>if p.showable=true/\p.depth<=40/\p.shown.length<=sizeLine then .ok (.d (.str p.shown)) M else .aa
  | none=>.aa
 | .tf,[w]=>match O9 M w with
  | some ao=>.ok (.d (.aB M.length)) (M++[.dK ao])
  | none=>match b_ M w with
   | some (true,ds)=>match Pa [] ds with
    | some ao=>.ok (.d (.aB M.length)) (M++[.dK ao])
    | none=>.aa
   | _=>.aa
 | .i_ t,[w]=>match B_ M w with
  | some g=>.ok (.d (.bl (decide (g=t)||(decide (g=.bool)&&decide (t=.int))))) M
  | none=>.aa
 | _,_=>.aa
noncomputable def rC:List W->Option (Int×Int)
 | [.d (.int i),.d (.int j)]=>some (i,j)
 | [.d (.int j)]=>some (0,j)
 | _=>none
noncomputable def Ph(i:Int)(n:Nat):List D:=(List.range n).map λk=>D.int (i+((k:Nat):Int))
noncomputable def yU(tp:Bool)(ds:List D):W:=if tp=true then .d (.tup ds) else .lv ds
def Ca(tp:Bool)(ws:List W)(M:af):bE W:=match rC ws with
 | some (i,j)=>if (-(2 ^ 62)<=i/\i<2 ^ 62/\-(2 ^ 62)<=j/\j<2 ^ 62)/\(j-i).toNat<=2 ^ 24 then .ok (yU tp (Ph i (j-i).toNat)) M else .aa
 | none=>.aa
def oJ(m:Me)(o:W)(ws:List D)(M:af):bE W :=
 match o with
 | .d (.aB n)=>match M[n]? with
  | some (.lst ds)=>match m,ws with
   | .append,[x]=>if ds.length<sizeLine then .ok (.d .ba) (M.set n (.lst (ds++[x]))) else .aa
   | .insert,[.int i,x]=>if ds.length<sizeLine/\0<=i/\i<=ds.length then .ok (.d .ba) (M.set n (.lst (ds.take i.toNat++x::ds.drop i.toNat))) else .aa
   | .reverse,[]=>.ok (.d .ba) (M.set n (.lst ds.reverse))
   | .clear,[]=>.ok (.d .ba) (M.set n (.lst []))
   | .pop,[]=>match ds[ds.length-1]? with
    | some d=>.ok (.d d) (M.set n (.lst ds.dropLast))
    | none=>.aa
   | .pop,[.int i]=>match if 0<=i then ds[i.toNat]? else none with
    | some d=>.ok (.d d) (M.set n (.lst (ds.eraseIdx i.toNat)))
    | none=>.aa
   | .extend,[.aB k]=>match M[k]? with
    | some (.lst es)=>if ds.length+es.length<=sizeLine then .ok (.d .ba) (M.set n (.lst (ds++es))) else .aa
    | _=>.aa
   | .extend,[.tup es]=>if ds.length+es.length<=sizeLine then .ok (.d .ba) (M.set n (.lst (ds++es))) else .aa
   | .remove,[.int i]=>match pL ds with
    | some is=>if i∈is then .ok (.d .ba) (M.set n (.lst ((is.erase i).map D.int))) else .aa
    | none=>.aa
   | .remove,[.tup ts]=>match cw M 30 ds,eG M 30 (.tup ts)with
    | some qs,some p=>if (qs.all SeqAt.shaped=true/\SeqAt.shaped p=true)/\qs.findIdx (PyData.eqv · p)<qs.length then .ok (.d .ba) (M.set n (.lst (ds.eraseIdx (qs.findIdx (PyData.eqv · p))))) else .aa
    | _,_=>.aa
   | _,_=>.aa
  | _=>.aa
 | _=>.aa
inductive Z1 where
 | items (ds:List D) | at (n:Nat)
noncomputable def mf(M:af):Z1->Option (List D)
 | .items ds=>some ds
 | .at n=>match M[n]? with
  | some (.lst ds)=>some ds
  | some (.i9 ds)=>some ds
  | _=>none
def FE(M:af):W->Option Z1
 | .lv ds=>some (.items ds)
 | .d (.tup ds)=>some (.items ds)
 | .d (.ls ds)=>some (.items ds)
 | .d (.aB n)=>if (b_ M (.d (.aB n))).isSome then some (.at n) else none
 | _=>none
noncomputable def jH(xs ys:List D)(i:Nat):Option D:=match xs[i]?,ys[i]? with
 | some x,some y=>some (.tup [x,y])
 | _,_=>none
inductive It where
 | at (n:Nat) | items (ds:List D) | iZ (lo:Int) (n:Nat) | rD (n:Nat) | kO (ds:List D) | zip (a b:Z1)
def itemAt(M:af)(i:Nat):It->Option (Option D)
 | .at n=>match M[n]? with
  | some (.lst ds)=>some ds[i]?
  | some (.i9 ds)=>some ds[i]?
  | _=>none
 | .items ds=>some ds[i]?
 | .iZ lo n=>some (if i<n then some (.int (lo+i)) else none)
 | .rD n=>match M[n]? with
  | some (.lst ds)=>some (ds[i]?.map λd=>.tup [.int i,d])
  | some (.i9 ds)=>some (ds[i]?.map λd=>.tup [.int i,d])
  | _=>none
 | .kO ds=>some (ds[i]?.map λd=>.tup [.int i,d])
 | .zip a b=>match mf M a,mf M b with
  | some xs,some ys=>some (jH xs ys i)
  | _,_=>none
def cO(M:af):It->Nat
 | .at n=>match M[n]? with
  | some (.lst ds)=>ds.length
  | some (.i9 ds)=>ds.length
  | _=>0
 | .items ds=>ds.length
 | .iZ _ n=>n
 | .rD n=>match M[n]? with
  | some (.lst ds)=>ds.length
  | some (.i9 ds)=>ds.length
  | _=>0
 | .kO ds=>ds.length
 | .zip a b=>match mf M a,mf M b with
  | some xs,some ys=>min xs.length ys.length
  | _,_=>0
def tm(a b:W)(d:D)(M:af):bE Unit:=match a with
 | .d (.aB n)=>match M[n]?,T7 b with
  | some (.dT ao),some k=>if ao.length<sizeLine then .ok () (M.set n (.dT (pM ao k d))) else .aa
  | _,_=>.aa
 | _=>.aa
noncomputable def T9(i:Int)(n:Nat):List D:=(List.range n).map λk=>.int (i-(k:Nat))
noncomputable def iB(s:Str):List D:=s.cps.toList.map λc=>.str ⟨#[c]⟩
def gf(k:SK)(ws:List W)(M:af):bE It :=
 match k,ws with
 | .seq,[.d (.str s)]=>if (s.cps.all λc=>decide (c<128))=true then .ok (.items (iB s)) M else .aa
 | .seq,[.lv ds]=>.ok (.items ds) M
 | .seq,[.d (.tup ds)]=>.ok (.items ds) M
 | .seq,[.d (.ls ds)]=>.ok (.items ds) M
 | .seq,[.d (.aB n)]=>if (b_ M (.d (.aB n))).isSome then .ok (.at n) M else .aa
 | .rng1,[.d (.int j)]=>if -(2 ^ 62)<=j/\j<2 ^ 62 then .ok (.iZ 0 j.toNat) M else .aa
 | .rng2,[.d (.int i),.d (.int j)]=>if -(2 ^ 62)<=i/\i<2 ^ 62/\-(2 ^ 62)<=j/\j<2 ^ 62 then .ok (.iZ i (j-i).toNat) M else .aa
 | .enum,[.lv ds]=>.ok (.kO ds) M
 | .enum,[.d (.tup ds)]=>.ok (.kO ds) M
 | .enum,[.d (.ls ds)]=>.ok (.kO ds) M
 | .enum,[.d (.aB n)]=>if (b_ M (.d (.aB n))).isSome then .ok (.rD n) M else .aa
 | .B8,[.d (.int i),.d (.int j),.d (.int k)]=>if k=-1/\-(2 ^ 62)<=i/\i<2 ^ 62/\-(2 ^ 62)<=j/\j<2 ^ 62 then .ok (.items (T9 i (i-j).toNat)) M else .aa
 | .keys,[.d (.aB n)]=>match M[n]? with
  | some (.dT ao)=>.ok (.items (ao.map Pb)) (M.set n (.dF ao))
  | some (.dF ao)=>.ok (.items (ao.map Pb)) M
  | some (.dK ao)=>.ok (.items (ao.map Pc)) (M.set n (.dG ao))
  | some (.dG ao)=>.ok (.items (ao.map Pc)) M
  | _=>.aa
 | .vals,[.d (.aB n)]=>match M[n]? with
  | some (.dT ao)=>.ok (.items (ao.map (·.2))) (M.set n (.dF ao))
  | some (.dF ao)=>.ok (.items (ao.map (·.2))) M
  | _=>.aa
 | .zip,[u,v]=>match FE M u,FE M v with
  | some a,some b=>.ok (.zip a b) M
  | _,_=>.aa
 | _,_=>.aa
noncomputable def de(tg:List Nat)(ds:List D)(ρ:En):Option En :=
 match tg,ds with
 | [],[]=>some ρ
 | i::tg,d::ds=>de tg ds (ρ.set i (some d))
 | _,_=>none
def bR(tg:List Nat)(d:D)(ρ:En):Option En :=
 match tg with
 | [i]=>some (ρ.set i (some d))
 | _=>match d with
  | .tup ds=>de tg ds ρ
  | _=>none
abbrev bo:=Nat->List D->af->bE W
noncomputable def d0(cx:List (Option Nat))(ρ:En):En:=cx.map λo=>o.bind λj=>(ρ[j]?).join
def bq(cond:En->af->bE Bool)(elt:En->af->bE D)(it:It)(tg:List Nat):Nat->Nat->En->af->List D->bE W
  | 0,i,_,M,aA=>match itemAt M i it with
    | some none=>.ok (.lv aA) M
    | _=>.aa
  | f+1,i,τ,M,aA=>match itemAt M i it with
    | some none=>.ok (.lv aA) M
    | some (some d)=>match bR tg d τ with
      | none=>.aa
      | some τ => if aA.length < sizeLine then
          (cond τ M).b0 λb M=>if b then (elt τ M).b0 λx M=>bq cond elt it tg f (i+1) τ M (aA++[x]) else bq cond elt it tg f (i+1) τ M aA
        else .aa
    | none=>.aa
noncomputable def tq(ng:Bool)(x:W)(M:af):bE W:=match x with
 | .d (.bl b)=>.ok (.d (.bl (ng != b))) M
 | _=>.aa
noncomputable def RB(f:Str)(x:W)(M:af):bE W:=match x with
 | .d (.aB n)=>match M[n]? with
  | some (.xc _ fs)=>match fs.lookup f with
   | some d=>.ok (.d d) M
   | none=>.aa
  | _=>.aa
 | _=>.aa
noncomputable def Cb(tb:List (Addr×Bool))(x:W)(M:af):bE W:=match x with
 | .d (.aB n)=>match M[n]? with
  | some (.xc C _)=>match tb.lookup C with
   | some b=>.ok (.d (.bl b)) M
   | none=>.aa
  | _=>.aa
 | _=>.aa
noncomputable def kQ:List D->Option (List Str)
 | []=>some []
 | .str x::ds=>(kQ ds).map (x::·)
 | _=>none
noncomputable def jI(cS:Str):List Str->Str
 | [x]=>x
 | xs=>Builtin.Str.glued cS xs
def kR(cS:Str)(w:W)(M:af):bE W:=match w with
 | .lv ds=>match kQ ds with
  | some xs=>if Builtin.Str.tooLong (xs.toArray.foldl (λa b=>a+b.length+cS.length) 0)=false/\(jI cS xs).length<=sizeLine then .ok (.d (.str (jI cS xs))) M else .aa
  | none=>.aa
 | _=>.aa
noncomputable def Lk:W->Option Str
 | .d (.str s)=>some s
 | .d (.int i)=>if i.natAbs.log2<1920 then some (Str.ofString (toString i)) else none
 | _=>none
def Cc(lit:Str)(x:W):Option Str:=(Lk x).bind λp=>if (Str.empty++p).length<=sizeLine/\(Str.empty++p++lit).length<=sizeLine/\p.length<=sizeLine then some p else none
def FF(lit p:Str)(y:W)(M:af):bE W:=match Lk y with
 | some r=>if (Str.empty++p++lit++r).length<=sizeLine/\r.length<=sizeLine then .ok (.d (.str (Str.empty++p++lit++r))) M else .aa
 | none=>.aa
noncomputable def rE(x y:W)(M:af):bE W:=match x,y with
 | .d (.str p),.d (.str q)=>if p.length+q.length<=sizeLine then .ok (.d (.str (p++q))) M else .aa
 | _,_=>.aa
def nR(tt:rA)(y:W)(M:af):bE W:=match y with
 | .d (.str k)=>match tt.lookup k with
  | some p=>.ok (.d (RA p)) M
  | none=>.aa
 | _=>.aa
noncomputable def gK(pt:Bool)(a b:W)(M:af):bE W:=match a,b with
 | .d (.str x),.d (.str y)=>if (y.length==0)=false/\x.length<=sizeLine/\(Txt.split x y).length<=sizeLine then (match pt with
  | true=>.ok (.d (.tup [.str (Txt.partition x y).1,.str (Txt.partition x y).2.1,.str (Txt.partition x y).2.2])) M
  | false=>.ok (.lv ((Txt.split x y).map D.str)) M) else .aa
 | _,_=>.aa
noncomputable def vI(ρ:En)(i:Nat)(tb:List (Addr×Nat)):Option Nat:=match ρ[i]? with
 | some (some (.fn a))=>tb.lookup a
 | _=>none
mutual
noncomputable def ev(G:bo):C->En->af->bE W
  | .eZ i,ρ,M=>match ρ[i]? with
    | some (some d)=>.ok (.d d) M
    | _=>.aa
  | .a8 d,_,M=>.ok (.d d) M
  | .bin op a b,ρ,M=>(ev G a ρ M).bind λx M=>(ev G b ρ M).bind λy M=>pI op x y M
  | .cmp op a b,ρ,M=>(ev G a ρ M).bind λx M=>(ev G b ρ M).bind λy M=>(bD op x y M).bind λr M=>.ok (.d (.bl r)) M
  | .chain o1 o2 a b c, ρ, M => (ev G a ρ M).bind fun x M => (ev G b ρ M).bind fun y M => (bD o1 x y M).bind fun r M =>
      if r then (ev G c ρ M).bind λz M=>(bD o2 y z M).bind λr M=>.ok (.d (.bl r)) M else .ok (.d (.bl false)) M
  | .dS cs,ρ,M=>gR G cs ρ M
  | .dJ cs,ρ,M=>mh G cs ρ M
  | .neg a,ρ,M=>(ev G a ρ M).bind λx M=>match x with
    | .d (.bl r)=>.ok (.d (.bl (!r))) M
    | _=>.aa
  | .ite c a b,ρ,M=>(dm G c ρ M).bind λr M=>if r then ev G a ρ M else ev G b ρ M
  | .tup cs,ρ,M=>(bh G cs ρ M).bind λds M=>if ds.length<=sizeLine then .ok (.d (.tup ds)) M else .aa
  | .lst cs,ρ,M=>(bh G cs ρ M).bind λds M=>if ds.length<=sizeLine then .ok (.lv ds) M else .aa
  | .sub a b,ρ,M=>(ev G a ρ M).bind λx M=>(ev G b ρ M).bind λy M=>dN x y M
  | .pG a lo hi,ρ,M=>(ev G a ρ M).bind λx M=>(oK G lo ρ M).bind λl M=>(oK G hi ρ M).bind λh M=>kM x l h M
  | .call f cs,ρ,M=>(bh G cs ρ M).bind λds M=>G f ds M
  | .bi b cs,ρ,M=>(cI G cs ρ M).bind λws M=>ja b ws M
  | .me m o cs,ρ,M=>(ev G o ρ M).bind λx M=>if (eu M x).isSome then (bh G cs ρ M).bind λds M=>oJ m x ds M else .aa
  | .wg ks cs,ρ,M=>(bh G cs ρ M).bind λds M=>if ks.length=ds.length then .ok (.d (.aB M.length)) (M++[.dK ((ks.map Sum.inr).zip ds)]) else .aa
  | .iZ tp cs,ρ,M=>(cI G cs ρ M).bind λws M=>Ca tp ws M
  | .vF _ v,_,M=>.ok (.d (.int v)) M
  | .l_ ng a,ρ,M=>(ev G a ρ M).bind λx M=>tq ng x M
  | .pH pt a b,ρ,M=>(ev G a ρ M).bind λx M=>match x with
    | .d (.str z)=>(ev G b ρ M).bind λy M=>gK pt (.d (.str z)) y M
    | _=>.aa
  | .wj lit a b,ρ,M=>(ev G a ρ M).bind λx M=>match Cc lit x with
    | some p=>(ev G b ρ M).bind λy M=>FF lit p y M
    | none=>.aa
  | .cat a b,ρ,M=>(ev G a ρ M).bind λx M=>(ev G b ρ M).bind λy M=>rE x y M
  | .iA _ tt b,ρ,M=>(ev G b ρ M).bind λy M=>nR tt y M
  | .vG cS a,ρ,M=>(ev G a ρ M).bind λw M=>kR cS w M
  | .vH _ a,_,M=>.ok (.d (.fn a)) M
  | .rB _ v,_,M=>.ok (.d (.str v)) M
  | .dM i tb cs,ρ,M=>match vI ρ i tb with
    | some f=>(bh G cs ρ M).bind λds M=>G f ds M
    | none=>.aa
  | .xf a f,ρ,M=>(ev G a ρ M).bind λx M=>RB f x M
  | .B9 a _ tb,ρ,M=>(ev G a ρ M).bind λx M=>Cb tb x M
  | .jG f cs,ρ,M=>(bh G cs ρ M).bind λds M=>(G f ds M).b0 .ok
  | .comp k cU tg cond elt cx, ρ, M => (cI G cU ρ M).bind fun ws M => (gf k ws M).bind fun it M =>
      bq (λτ M=>bL G cond τ M) (λτ M=>(ev G elt τ M).bind own) it tg (cO M it) 0 (d0 cx ρ) M []
noncomputable def dm(G:bo):dU->En->af->bE Bool
 | .dS ts,ρ,M=>eN G ts ρ M
 | .dJ ts,ρ,M=>eO G ts ρ M
 | .neg a,ρ,M=>(dm G a ρ M).bind λr M=>.ok (!r) M
 | .val c,ρ,M=>(ev G c ρ M).bind λw M=>match md M w with
  | some r=>.ok r M
  | none=>.aa
noncomputable def gR(G:bo):List C->En->af->bE W
 | [],_,_=>.aa
 | c::cs,ρ,M=>(ev G c ρ M).bind λx M=>match cs,x with
  | [],x=>.ok x M
  | _,.d (.bl true)=>gR G cs ρ M
  | _,.d (.bl false)=>.ok (.d (.bl false)) M
  | _,_=>.aa
noncomputable def mh(G:bo):List C->En->af->bE W
 | [],_,_=>.aa
 | c::cs,ρ,M=>(ev G c ρ M).bind λx M=>match cs,x with
  | [],x=>.ok x M
  | _,.d (.bl false)=>mh G cs ρ M
  | _,.d (.bl true)=>.ok (.d (.bl true)) M
  | _,_=>.aa
noncomputable def eN(G:bo):List dU->En->af->bE Bool
 | [],_,_=>.aa
 | c::cs,ρ,M=>(dm G c ρ M).bind λx M=>match cs,x with
  | [],x=>.ok x M
  | _,true=>eN G cs ρ M
  | _,false=>.ok false M
noncomputable def eO(G:bo):List dU->En->af->bE Bool
 | [],_,_=>.aa
 | c::cs,ρ,M=>(dm G c ρ M).bind λx M=>match cs,x with
  | [],x=>.ok x M
  | _,false=>eO G cs ρ M
  | _,true=>.ok true M
noncomputable def bh(G:bo):List C->En->af->bE (List D)
 | [],_,M=>.ok [] M
 | c::cs,ρ,M=>((ev G c ρ M).bind own).bind λd M=>(bh G cs ρ M).bind λds M=>.ok (d::ds) M
noncomputable def cI(G:bo):List C->En->af->bE (List W)
 | [],_,M=>.ok [] M
 | c::cs,ρ,M=>(ev G c ρ M).bind λd M=>(cI G cs ρ M).bind λds M=>.ok (d::ds) M
noncomputable def oK(G:bo):Option C->En->af->bE (Option Int)
 | none,_,M=>.ok none M
 | some c,ρ,M=>(ev G c ρ M).bind λw M=>match w with
  | .d (.int i)=>.ok (some i) M
  | _=>.aa
noncomputable def bL(G:bo):Option dU->En->af->bE Bool
 | none,_,M=>.ok true M
 | some c,ρ,M=>dm G c ρ M
end
section
variable {G:bo} {lo hi:Option C} {cond:Option dU}
theorem yV : ev G (.eZ i) ρ M = (match ρ[i]? with
    | some (some d)=>.ok (.d d) M
    | _=>.aa):=rfl
theorem Ig:ev G (.a8 d) u0 M=.ok (.d d) M:=rfl
theorem Ih:ev G (.bin op a b) ρ M=(ev G a ρ M).bind λx M=>(ev G b ρ M).bind λy M=>pI op x y M:=rfl
theorem yW:ev G (.cmp op a b) ρ M=(ev G a ρ M).bind λx M=>(ev G b ρ M).bind λy M=>(bD op x y M).bind λr M=>.ok (.d (.bl r)) M:=rfl
theorem pN : ev G (.chain o1 o2 a b c) ρ M = ((ev G a ρ M).bind fun x M => (ev G b ρ M).bind fun y M => (bD o1 x y M).bind fun r M =>
      if r then (ev G c ρ M).bind λz M=>(bD o2 y z M).bind λr M=>.ok (.d (.bl r)) M else .ok (.d (.bl false)) M):=rfl
theorem Cd:ev G (.dS cs) ρ M=gR G cs ρ M:=rfl
theorem Ce:ev G (.dJ cs) ρ M=mh G cs ρ M:=rfl
theorem Ii : ev G (.neg a) ρ M = ((ev G a ρ M).bind fun x M => match x with
    | .d (.bl r)=>.ok (.d (.bl (!r))) M
    | _=>.aa):=rfl
theorem yX:ev G (.ite c a b) ρ M=(dm G c ρ M).bind λr M=>if r then ev G a ρ M else ev G b ρ M:=rfl
theorem yY:ev G (.tup cs) ρ M=(bh G cs ρ M).bind λds M=>if ds.length<=sizeLine then .ok (.d (.tup ds)) M else .aa:=rfl
theorem yZ:ev G (.lst cs) ρ M=(bh G cs ρ M).bind λds M=>if ds.length<=sizeLine then .ok (.lv ds) M else .aa:=rfl
theorem Ij:ev G (.sub a b) ρ M=(ev G a ρ M).bind λx M=>(ev G b ρ M).bind λy M=>dN x y M:=rfl
theorem Ik:ev G (.pG a lo hi) ρ M=(ev G a ρ M).bind λx M=>(oK G lo ρ M).bind λl M=>(oK G hi ρ M).bind λh M=>kM x l h M:=rfl
theorem tu:ev G (.call f cs) ρ M=(bh G cs ρ M).bind λds M=>G f ds M:=rfl
theorem y0:ev G (.bi b cs) ρ M=(cI G cs ρ M).bind λws M=>ja b ws M:=rfl
theorem y1:ev G (.me m o cs) ρ M=(ev G o ρ M).bind λx M=>if (eu M x).isSome then (bh G cs ρ M).bind λds M=>oJ m x ds M else .aa:=rfl
theorem rF:ev G (.wg ks cs) ρ M=(bh G cs ρ M).bind λds M=>if ks.length=ds.length then .ok (.d (.aB M.length)) (M++[.dK ((ks.map Sum.inr).zip ds)]) else .aa:=rfl
theorem Il:ev G (.iZ tp cs) ρ M=(cI G cs ρ M).bind λws M=>Ca tp ws M:=rfl
theorem Im:ev G (.vF u0 v) u1 M=.ok (.d (.int v)) M:=rfl
theorem Cf:ev G (.l_ ng a) ρ M=(ev G a ρ M).bind λx M=>tq ng x M:=rfl
theorem Pj{f:Str}:ev G (.xf a f) ρ M=(ev G a ρ M).bind λx M=>RB f x M:=rfl
theorem Io{k:IX}{tb:List (Addr×Bool)}:ev G (.B9 a k tb) ρ M=(ev G a ρ M).bind λx M=>Cb tb x M:=rfl
theorem y2:ev G (.jG f cs) ρ M=(bh G cs ρ M).bind λds M=>(G f ds M).b0 .ok:=rfl
theorem Iq{y:Str}{a:Addr}:ev G (.vH y a) u0 M=.ok (.d (.fn a)) M:=rfl
theorem Ir {pt : Bool} : ev G (.pH pt a b) ρ M = ((ev G a ρ M).bind fun x M => match x with
    | .d (.str z)=>(ev G b ρ M).bind λy M=>gK pt (.d (.str z)) y M
    | _=>.aa):=rfl
theorem y3 {lit : Str} : ev G (.wj lit a b) ρ M = ((ev G a ρ M).bind fun x M => match Cc lit x with
    | some p=>(ev G b ρ M).bind λy M=>FF lit p y M
    | none=>.aa):=rfl
theorem Iu:ev G (.cat a b) ρ M=(ev G a ρ M).bind λx M=>(ev G b ρ M).bind λy M=>rE x y M:=rfl
theorem tw{x:Str}{tt:rA}:ev G (.iA x tt b) ρ M=(ev G b ρ M).bind λy M=>nR tt y M:=rfl
theorem Iv{cS:Str}:ev G (.vG cS a) ρ M=(ev G a ρ M).bind λw M=>kR cS w M:=rfl
theorem Iw{x v:Str}:ev G (.rB x v) u0 M=.ok (.d (.str v)) M:=rfl
theorem pO{i:Nat}{tb:List (Addr×Nat)}:ev G (.dM i tb cs) ρ M=(match vI ρ i tb with
 | some f=>(bh G cs ρ M).bind λds M=>G f ds M
 | none=>.aa):=rfl
theorem nS : ev G (.comp k cU tg cond elt cx) ρ M = ((cI G cU ρ M).bind fun ws M => (gf k ws M).bind fun it M =>
      bq (λτ M=>bL G cond τ M) (λτ M=>(ev G elt τ M).bind own) it tg (cO M it) 0 (d0 cx ρ) M []):=rfl
theorem y4:dm G (.dS ts) ρ M=eN G ts ρ M:=rfl
theorem y6:dm G (.dJ ts) ρ M=eO G ts ρ M:=rfl
theorem Cg:dm G (.neg a) ρ M=(dm G a ρ M).bind λr M=>.ok (!r) M:=rfl
theorem nT : dm G (.val c) ρ M = ((ev G c ρ M).bind fun w M => match md M w with
    | some r=>.ok r M
    | none=>.aa):=rfl
theorem jq:gR G [] u0 u1=.aa:=rfl
theorem g8 : gR G (c :: cs) ρ M = ((ev G c ρ M).bind fun x M => match cs, x with
    | [],x=>.ok x M
    | _,.d (.bl true)=>gR G cs ρ M
    | _,.d (.bl false)=>.ok (.d (.bl false)) M
    | _,_=>.aa):=rfl
theorem kT:mh G [] u0 u1=.aa:=rfl
theorem jr : mh G (c :: cs) ρ M = ((ev G c ρ M).bind fun x M => match cs, x with
    | [],x=>.ok x M
    | _,.d (.bl false)=>mh G cs ρ M
    | _,.d (.bl true)=>.ok (.d (.bl true)) M
    | _,_=>.aa):=rfl
theorem jt:eN G [] u0 u1=.aa:=rfl
theorem g9 : eN G (c :: cs) ρ M = ((dm G c ρ M).bind fun x M => match cs, x with
    | [],x=>.ok x M
    | _,true=>eN G cs ρ M
    | _,false=>.ok false M):=rfl
theorem ju:eO G [] u0 u1=.aa:=rfl
theorem g_ : eO G (c :: cs) ρ M = ((dm G c ρ M).bind fun x M => match cs, x with
    | [],x=>.ok x M
    | _,false=>eO G cs ρ M
    | _,true=>.ok true M):=rfl
theorem fk:bh G [] u0 M=.ok [] M:=rfl
theorem d8:bh G (c::cs) ρ M=((ev G c ρ M).bind own).bind λd M=>(bh G cs ρ M).bind λds M=>.ok (d::ds) M:=rfl
theorem fm:cI G [] u0 M=.ok [] M:=rfl
theorem d9:cI G (c::cs) ρ M=(ev G c ρ M).bind λd M=>(cI G cs ρ M).bind λds M=>.ok (d::ds) M:=rfl
theorem kU:oK G none u0 M=.ok none M:=rfl
theorem kW : oK G (some c) ρ M = ((ev G c ρ M).bind fun w M => match w with
    | .d (.int i)=>.ok (some i) M
    | _=>.aa):=rfl
end
section
variable [EX]
def Iy(K:PySem.W.Frag)(ads:List Addr)(H₀ H:Hp):W->V->Prop
 | .d x,v=>RD K ads H x v
 | .lv ds,v=>∃a xs,v=.ref a/\H₀ a=none/\H a=some (.lst xs)/\a∉ads/\aH K ads H ds xs
def jJ(K:PySem.W.Frag)(ads:List Addr)(H:Hp)(w:W)(M':af)(Q:VK):Prop :=
 ∀v H' aq,ay ads aq H H'->aM K aq H' M'->Iy K aq H H' w v->Q v H'
def Iz(K:PySem.W.Frag)(ads:List Addr)(H:Hp)(ds:List D)(M':af)(Q:List V->Hp->Prop):Prop :=
 ∀vs H' aq,ay ads aq H H'->aM K aq H' M'->aH K aq H' ds vs->Q vs H'
def Pk(K:PySem.W.Frag)(ads:List Addr)(H:Hp)(b:Bool)(M':af)(Q:Bool->Hp->Prop):Prop :=
 ∀H' aq,ay ads aq H H'->aM K aq H' M'->Q b H'
def bz(K:PySem.W.Frag)(ads:List Addr)(H:Hp)(Q:VK):bE W->Prop
 | .ok w M=>jJ K ads H w M Q
 | .err x M=>EX.post K ads H x M
 | .aa=>False
def pP(K:PySem.W.Frag)(ads:List Addr)(H:Hp)(Q:List V->Hp->Prop):bE (List D)->Prop
 | .ok w M=>Iz K ads H w M Q
 | .err x M=>EX.post K ads H x M
 | .aa=>False
def AQ(K:PySem.W.Frag)(ads:List Addr)(H:Hp)(Q:Bool->Hp->Prop):bE Bool->Prop
 | .ok w M=>Pk K ads H w M Q
 | .err x M=>EX.post K ads H x M
 | .aa=>False
structure SR (K:PySem.W.Frag) (ads:List Addr) (M:af) (ρ:En) (σ:L2.St) (H:Hp):Prop where
 mem:aM K ads H M
 en:O6 K ads H ρ σ
 ln:ρ.length=σ.length
def tE(K:PySem.W.Frag)(o:En->af->bE W):TE:=λσ H Q=>∃ads M ρ,SR K ads M ρ σ H/\bz K ads H Q (o ρ M)
def AR(K:PySem.W.Frag)(o:En->af->bE (List D)):TA:=λσ H Q=>∃ads M ρ,SR K ads M ρ σ H/\pP K ads H Q (o ρ M)
def lS(K:PySem.W.Frag)(o:En->af->bE Bool):TT:=λσ H Q=>∃ads M ρ,SR K ads M ρ σ H/\AQ K ads H Q (o ρ M)
section
variable {K:PySem.W.Frag} {ads aq aX:List Addr} {H H' H2:Hp} {M M2:af} {ρ:En} {σ:L2.St}
theorem Iy.rw{H₀:Hp}{w:W}{v:V}(h:Iy K ads H₀ H w v):RW K ads H w v:=by
 cases w with
 | d x=>exact h
 | lv ds=>obtain⟨a,xs,e,_,h1,n,r⟩:=h;exact⟨a,xs,e,h1,n,r⟩
theorem SR.grow(s:SR K ads M ρ σ H)(g:ay ads aq H H')(m:aM K aq H' M2):SR K aq M2 ρ σ H':=⟨m,g.Wr s.en,s.ln⟩
theorem vJ(g:ay ads aq H H')(m:aM K ads H M)(m':aM K aq H' M2){a:Addr}(h:H' a=none):H a=none:=by
 by_cases hb:a∈ads
 ·have:a∈aq:=by obtain⟨r,e⟩:=g.pre;rw[e];exact Bd _ hb
  exact absurd this (m'.fresh h)
 ·cases q:H a with
  | none=>rfl
  | some o=>rw[g.kept a o hb q]at h;cases h
theorem Iy.back{w:W}{v:V}(g:ay ads aq H H')(m:aM K ads H M)(m':aM K aq H' M2)(h:Iy K aX H' H2 w v):Iy K aX H H2 w v:=by
 cases w with
 | d x=>exact h
 | lv ds=>obtain⟨a,xs,e,h0,h1,n,r⟩:=h;exact⟨a,xs,e,vJ g m m' h0,h1,n,r⟩
theorem jJ.shift{w:W}{Mw:af}{Q:VK}(p:jJ K ads H w Mw Q)(g:ay ads aq H H')(m:aM K ads H M)(m':aM K aq H' M2):jJ K aq H' w Mw Q :=
 λv H1 ag g1 m1 r=>p v H1 ag (g.trans g1) m1 (r.back g m m')
theorem bz.shift{o:bE W}{Q:VK}(p:bz K ads H Q o)(g:ay ads aq H H')(m:aM K ads H M)(m':aM K aq H' M2):bz K aq H' Q o:=by
 cases o with
 | ok w Mw=>exact jJ.shift p g m m'
 | err _ _=>exact EX.shift p g
 | aa=>exact p
theorem AQ.shift{o:bE Bool}{Q:Bool->Hp->Prop}(p:AQ K ads H Q o)(g:ay ads aq H H'):AQ K aq H' Q o:=by
 cases o with
 | ok w Mw=>exact λH1 ag g1 m1=>p H1 ag (g.trans g1) m1
 | err _ _=>exact EX.shift p g
 | aa=>exact p
theorem bz.imp{e1 e2:EX}(im:∀{K:PySem.W.Frag}{ads:List Addr}{H:Hp}{x:yR}{M:af},e1.post K ads H x M->e2.post K ads H x M){o:bE W}{Q:VK}(p:@bz e1 K ads H Q o):@bz e2 K ads H Q o:=by
 cases o with
 | ok w Mw=>exact p
 | err _ _=>exact im p
 | aa=>exact p
theorem cJ{o:En->af->bE W}{k:W->af->bE W}{Q:VK}{R:V->Hp->Prop}(s:SR K ads M ρ σ H)(h:bz K ads H Q ((o ρ M).bind k))(hk:∀w M1 v H1 ag,SR K ag M1 ρ σ H1->RW K ag H1 w v->bz K ag H1 Q (k w M1)->R v H1):tE K o σ H R:=by
 refine⟨ads,M,ρ,s,?_⟩
 cases q:o ρ M with
 | ok w M1 =>
  rw[q]at h;have h:bz K ads H Q (k w M1):=h;exact λv H1 ag g1 m1 r=>hk w M1 v H1 ag (s.grow g1 m1) r.rw (h.shift g1 s.mem m1)
 | err _ _=>rw[q]at h;exact h
 | aa=>rw[q]at h;exact h
theorem two{oa ob:En->af->bE W}{f:W->W->af->bE W}{r:R2}{Q:VK}(hr:∀ {ads M H x y vx vy Q},aM K ads H M->RW K ads H x vx->RW K ads H y vy->bz K ads H Q (f x y M)->r vx vy H Q)(h:tE K (λρ M=>(oa ρ M).bind λx M=>(ob ρ M).bind λy M=>f x y M) σ H Q):Lf r (tE K oa) (tE K ob) σ H Q:=by
 obtain⟨ads,M,ρ,s,h⟩:=h;refine cJ s h λw M1 v H1 ag s1 kX h1=>?_;refine⟨ag,M1,ρ,s1,?_⟩
 cases q:ob ρ M1 with
 | ok y M2 =>
  rw[q]at h1;have h1:bz K ag H1 Q (f w y M2):=h1;exact λvy H2 aX g2 m2 ry=>hr m2 (g2.rw kX) ry.rw (h1.shift g2 s1.mem m2)
 | err _ _=>rw[q]at h1;exact h1
 | aa=>rw[q]at h1;exact h1
theorem bz.plain{Q:VK}{x:D}{v:V}(h:bz K ads H Q (.ok (.d x) M))(m:aM K ads H M)(r:RD K ads H x v):Q v H:=h v H ads (ay.refl _ _) m r
theorem bz.list{Q:VK}{ds:List D}{xs:List V}(h:bz K ads H Q (.ok (.lv ds) M))(m:aM K ads H M)(r:aH K ads H ds xs){p:Addr}(hp:H p=none):Q (.ref p) (bH H p (.lst xs)) :=
 h _ _ ads (ay.gc m hp) (m.gc hp) ⟨p,xs,rfl,hp,bW,m.fresh hp,(ay.gc m hp).l9 _ _ r⟩
theorem bz.tuple{Q:VK}{ds:List D}{xs:List V}(h:bz K ads H Q (.ok (.d (.tup ds)) M))(m:aM K ads H M)(r:aH K ads H ds xs){p:Addr}(hp:H p=none):Q (.ref p) (bH H p (.tup xs)):=by
 refine h _ _ ads (ay.gc m hp) (m.gc hp) ?_;show RD _ _ _ (.tup ds) _;unfold RD;exact⟨p,xs,rfl,bW,(ay.gc m hp).l9 _ _ r⟩
theorem e9{w:W}{v:V}{l:Bool}{ds:List D}(m:aM K ads H M)(r:RW K ads H w v)(e:b_ M w=some (l,ds)):∃a xs,v=.ref a/\aH K ads H ds xs/\((l=true/\eF K H a xs)\/(l=false/\fb K H a xs)):=by
 cases w with
 | lv es =>
  simp only[b_,qL,uR]at e;obtain⟨rfl,rfl⟩:=e;obtain⟨a,xs,e,h,n,r⟩:=r;exact⟨a,xs,e,r,.inl ⟨rfl,eF.of h⟩⟩
 | d x =>
  cases x with
  | tup es =>
   simp only[b_,qL,uR]at e;obtain⟨rfl,rfl⟩:=e;have r:RD K ads H (.tup es) v:=r;unfold RD at r;obtain⟨a,xs,e,h,r⟩:=r;exact⟨a,xs,e,r,.inr ⟨rfl,fb.of h⟩⟩
  | ls es =>
   simp only[b_,qL,uR]at e;obtain⟨rfl,rfl⟩:=e;have r:RD K ads H (.ls es) v:=r;unfold RD at r;obtain⟨a,xs,e,h,r⟩:=r;exact⟨a,xs,e,r,.inl ⟨rfl,h.sq⟩⟩
  | aB n =>
   have r:RD K ads H (.aB n) v:=r;unfold RD at r;obtain⟨a,ev,ea⟩:=r;unfold b_ at e;dsimp only at e
   cases q:M[n]? with
   | none=>rw[q]at e;cases e
   | some o =>
    rw[q]at e;have ho:=m.obj n o a q ea
    cases o with
    | lst es=>cases e;obtain⟨xs,h,r⟩:=ho;exact⟨a,xs,ev,r,.inl ⟨rfl,eF.of h⟩⟩
    | i9 es=>cases e;obtain⟨o,xs,h,r⟩:=ho;exact⟨a,xs,ev,r,.inl ⟨rfl,.inl (.inr ⟨o,h⟩)⟩⟩
    | dK _=>cases e
    | dT _=>cases e
    | dF _=>cases e
    | dG _=>cases e
    | xc _ _=>cases e
  | ba=>cases e
  | bl _=>cases e
  | int _=>cases e
  | str _=>cases e
  | fn _=>cases e
  | tg _=>cases e
theorem kY{w:W}{v:V}{ds:List D}(m:aM K ads H M)(r:RW K ads H w v)(e:eu M w=some ds):∃a xs,v=.ref a/\aH K ads H ds xs/\H a=some (.lst xs):=by
 cases w with
 | lv es =>
  simp only[eu,qL]at e;subst e;obtain⟨a,xs,e,h,n,r⟩:=r;exact⟨a,xs,e,r,h⟩
 | d x =>
  cases x with
  | aB n =>
   have r:RD K ads H (.aB n) v:=r;unfold RD at r;obtain⟨a,ev,ea⟩:=r;simp only[eu]at e
   cases q:M[n]? with
   | none=>rw[q]at e;cases e
   | some o =>
    rw[q]at e;have ho:=m.obj n o a q ea
    cases o with
    | lst es=>cases e;obtain⟨xs,h,r⟩:=ho;exact⟨a,xs,ev,r,h⟩
    | i9 es=>cases e
    | dK _=>cases e
    | dT _=>cases e
    | dF _=>cases e
    | dG _=>cases e
    | xc _ _=>cases e
  | tup _=>cases e
  | ls _=>cases e
  | ba=>cases e
  | bl _=>cases e
  | int _=>cases e
  | str _=>cases e
  | fn _=>cases e
  | tg _=>cases e
theorem aY{i:Int}{v:V}(r:RW K ads H (.d (.int i)) v):v=.int i:=by
 have r:RD K ads H (.int i) v:=r;unfold RD at r;exact r
theorem bT{i:Str}{v:V}(r:RW K ads H (.d (.str i)) v):v=.str i:=by
 have r:RD K ads H (.str i) v:=r;unfold RD at r;exact r
theorem iE{i:Bool}{v:V}(r:RW K ads H (.d (.bl i)) v):v=.bl i:=by
 have r:RD K ads H (.bl i) v:=r;unfold RD at r;exact r
theorem kZ{v:V}(r:RW K ads H (.d .ba) v):v=.ba:=by
 have r:RD K ads H .ba v:=r;unfold RD at r;exact r
theorem cQ(i:Int):RD K ads H (.int i) (.int i):=by unfold RD;rfl
theorem jK(i:Bool):RD K ads H (.bl i) (.bl i):=by unfold RD;rfl
theorem eA(i:Str):RD K ads H (.str i) (.str i):=by unfold RD;rfl
theorem hG:RD K ads H .ba .ba:=by unfold RD;rfl
end
section
variable {X:Cx}
def T_(K:PySem.W.Frag)(op:AO):R2:=λx y H Q=>∃ads M wx wy,aM K ads H M/\RW K ads H wx x/\RW K ads H wy y/\bz K ads H Q (pI op wx wy M)
noncomputable def Ch:AO->Operator
 | .add=>.Add | .sub=>.Sub | .mul=>.Mult | .fdiv=>.FloorDiv | .mod=>.Mod | .pow=>.Pow
theorem Ci:gI X (binaryOp .Add) (λx y H Q=>∃a b ys,x=.ref a/\y=.ref b/\fb X.K H a []/\fb X.K H b ys/\Q (.ref b) H):=by
 intro pins s σ H x y v u Q I rx ry h;obtain⟨a,b,ys,rfl,rfl,ha,hb,q⟩:=h;cases rx;cases ry;obtain⟨ar,r1,p1,_⟩:=I.tuple ha;obtain⟨yw,r2,p2,_⟩:=I.tuple hb;cases r1;obtain⟨⟨cls,dd,data,sl⟩,ho,hc,n,hd⟩:=id p1;obtain⟨⟨S_,Rm,data2,Rn⟩,HI,AM,n2,Oz⟩:=id p2;simp only at hc hd AM Oz;subst hc hd AM Oz
 exact concat_meets ⟨_,ho,rfl⟩ ⟨_,HI,rfl⟩ noFill_tuple_add seq_tuple_add Gx Gs (Gr _ _)
  (tuple_addW0 a b _ yw.toArray n n2 dd Rm sl Rn rfl) ⟨ho,HI,⟨.ref b,H,I,rfl,q⟩⟩
theorem aH.rep{K:PySem.W.Frag}{ads:List Addr}{H:Hp}{ds:List D}{vs:List V}(r:aH K ads H ds vs):∀k:Nat,aH K ads H (List.replicate k ds).flatten (List.replicate k vs).flatten
 | 0=>by simp;unfold aH;rfl
 | k+1=>by simp only[uI,wu];exact r.app (aH.rep r k)
theorem IA(op:AO):gI X (binaryOp (Ch op)) (T_ X.K op):=by
 intro pins s σ H x y v u Q I rx ry h;obtain⟨ads,M,wx,wy,m,r1,r2,h⟩:=h
 have Pl:∀ {op},op=AO.add->bz X.K ads H Q (match eu M wx,eu M wy with
  | some xs,some ys=>if xs.length+ys.length<=sizeLine then .ok (.lv (xs++ys)) M else .aa
  | _,_=>.aa)->wpAny (model X.prog X.w) X.A (binaryOp (Ch op) v u) (EP X pins σ Q) X.xe s:=by
  intro op e h;subst e
  cases q1:eu M wx with
  | none=>rw[q1]at h;exact h.elim
  | some xs =>
   cases q2:eu M wy with
   | none=>rw[q1,q2]at h;exact h.elim
   | some ys =>
    rw[q1,q2]at h;dsimp only at h;split at h
    ·rename_i hz
     obtain⟨a,vs,e1,ra,ha⟩:=kY m r1 q1;obtain⟨b,ws,e2,rb,hb⟩:=kY m r2 q2;subst e1 e2;refine HS pins s σ H _ _ v u Q I rx ry ⟨a,b,vs,ws,rfl,rfl,ha,hb,by rw[<- ra.len,<- rb.len];exact hz,λp hp=>h.list m (ra.app rb) hp⟩
    ·exact h.elim
 have tB:(¬(∃i j:Int,wx=.d (.int i)/\wy=.d (.int j))->False)->∃i j:Int,wx=.d (.int i)/\wy=.d (.int j):=λk=>Gq k;cases op
 case add =>
  by_cases hi:∃i j:Int,wx=.d (.int i)/\wy=.d (.int j)
  ·obtain⟨i,j,rfl,rfl⟩:=hi;rw[aY r1]at rx;rw[aY r2]at ry;exact Hs pins s σ H _ _ v u Q I rx ry ⟨_,_,rfl,rfl,bz.plain (x:=.int (i+j)) h m (cQ _)⟩
  by_cases ht:∃xs ys,wx=.d (.tup xs)/\wy=.d (.tup ys)
  ·obtain⟨xs,ys,rfl,rfl⟩:=ht;have h:bz X.K ads H Q (if xs.length+ys.length<=sizeLine then .ok (.d (.tup (xs++ys))) M else .aa):=h;split at h
   ·rename_i hc
    have r1:RD X.K ads H (.tup xs) x:=r1;have r2:RD X.K ads H (.tup ys) y:=r2;unfold RD at r1 r2;obtain⟨a,vs,e1,ha,ra⟩:=r1;obtain⟨b,ws,e2,hb,rb⟩:=r2;subst e1 e2;by_cases Ua:vs=[]
    ·have ex:xs=[]:=Go (by rw[ra.len,Ua];rfl);subst ex Ua;refine Ci pins s σ H _ _ v u Q I rx ry ⟨a,b,ws,rfl,rfl,fb.of ha,fb.of hb,bz.plain (x:=.tup ys) h m ?_⟩;unfold RD;exact⟨b,ws,rfl,hb,rb⟩
    refine BP pins s σ H _ _ v u Q I rx ry ⟨a,b,vs,ws,rfl,rfl,fb.of ha,fb.of hb,Ua,by rw[<- ra.len,<- rb.len];exact hc,λz=>?_,λ_ p hp=>h.tuple m (ra.app rb) hp⟩;have ey:ys=[]:=Go (by rw[rb.len,z];rfl);subst ey;rw[lU]at h;refine h.plain m ?_;unfold RD;exact⟨a,vs,rfl,ha,ra⟩
   ·exact h.elim
  ·refine Pl rfl ?_
   rw[show pI .add wx wy M=(match eu M wx,eu M wy with
    | some xs,some ys=>if xs.length+ys.length<=sizeLine then .ok (.lv (xs++ys)) M else .aa
    | _,_=>.aa) by rcases wx with⟨_|_|_|_|_|_|_⟩|_<;>rcases wy with⟨_|_|_|_|_|_|_⟩|_<;>first | rfl | exact absurd ⟨_,_,rfl,rfl⟩ hi | exact absurd ⟨_,_,rfl,rfl⟩ ht]at h
   exact h
 case sub =>
  obtain⟨i,j,rfl,rfl⟩:=tB λz=>by
   rcases wx with⟨_|_|_|_|_|_|_⟩|_<;>first | exact False.elim h | (rcases wy with⟨_|_|_|_|_|_|_⟩|_<;>first | exact False.elim h | exact z ⟨_,_,rfl,rfl⟩)
  rw[aY r1]at rx;rw[aY r2]at ry;exact Ht pins s σ H _ _ v u Q I rx ry ⟨_,_,rfl,rfl,bz.plain (x:=.int (i-j)) h m (cQ _)⟩
 case mul =>
  by_cases hi:∃i j:Int,wx=.d (.int i)/\wy=.d (.int j)
  ·obtain⟨i,j,rfl,rfl⟩:=hi;have h:bz X.K ads H Q (if (-(2 ^ 64)<i/\i<2 ^ 64)\/(-(2 ^ 64)<j/\j<2 ^ 64) then .ok (.d (.int (i*j))) M else .aa):=h;rw[aY r1]at rx;rw[aY r2]at ry;split at h
   ·rename_i hc
    exact Hu pins s σ H _ _ v u Q I rx ry ⟨_,_,rfl,rfl,hc,h.plain m (cQ _)⟩
   ·exact h.elim
  obtain⟨k,rfl⟩:∃k:Int,wy=.d (.int k):=Gq λz=>by
   rcases wx with⟨_|_|_|_|_|_|_⟩|_<;>rcases wy with⟨_|_|_|_|_|_|_⟩|_<;>first | exact False.elim h | exact z ⟨_,rfl⟩
  by_cases ht:∃xs,wx=.d (.tup xs)
  ·obtain⟨xs,rfl⟩:=ht;have h:bz X.K ads H Q (if -(2 ^ 63)<=k/\k<2 ^ 63/\xs.length*k.toNat<=sizeLine then .ok (.d (.tup (List.replicate k.toNat xs).flatten)) M else .aa):=h;split at h
   ·rename_i hc
    have r1:RD X.K ads H (.tup xs) x:=r1;unfold RD at r1;obtain⟨a,vs,e1,ha,ra⟩:=r1;subst e1;rw[aY r2]at ry;refine B3 pins s σ H _ _ v u Q I rx ry ⟨a,k,vs,rfl,rfl,ha,hc.1,hc.2.1,by rw[<- ra.len];exact hc.2.2,λz=>h.plain m ?_,λp hp=>h.tuple m (aH.rep ra k.toNat) hp⟩;unfold RD;exact⟨a,vs,rfl,ha,by have:=aH.rep ra k.toNat;rw[z]at this;exact this⟩
   ·exact h.elim
  ·rw[show pI .mul wx (.d (.int k)) M=(match eu M wx with
    | some xs=>if -(2 ^ 63)<=k/\k<2 ^ 63/\xs.length*k.toNat<=sizeLine then .ok (.lv (List.replicate k.toNat xs).flatten) M else .aa
    | none=>.aa) by rcases wx with⟨_|_|_|_|_|_|_⟩|_<;>first | rfl | exact absurd ⟨_,_,rfl,rfl⟩ hi | exact absurd ⟨_,rfl⟩ ht]at h
   cases q1:eu M wx with
   | none=>rw[q1]at h;exact h.elim
   | some xs =>
    rw[q1]at h;dsimp only at h;split at h
    ·rename_i hz
     obtain⟨a,vs,e1,ra,ha⟩:=kY m r1 q1;subst e1;rw[aY r2]at ry;refine HU pins s σ H _ _ v u Q I rx ry ⟨a,k,vs,rfl,rfl,ha,hz.1,hz.2.1,by rw[<- ra.len];exact hz.2.2,λp hp=>h.list m (aH.rep ra k.toNat) hp⟩
    ·exact h.elim
 case fdiv =>
  obtain⟨i,j,rfl,rfl⟩:=tB λz=>by
   rcases wx with⟨_|_|_|_|_|_|_⟩|_<;>first | exact False.elim h | (rcases wy with⟨_|_|_|_|_|_|_⟩|_<;>first | exact False.elim h | exact z ⟨_,_,rfl,rfl⟩)
  rw[aY r1]at rx;rw[aY r2]at ry;have h:bz X.K ads H Q (if 0<j/\j<1073741824 then .ok (.d (.int (i / j))) M else .aa):=h;split at h
  ·rename_i hc
   exact Bz pins s σ H _ _ v u Q I rx ry ⟨_,_,rfl,rfl,hc,h.plain m (cQ _)⟩
  ·exact h.elim
 case mod =>
  obtain⟨i,j,rfl,rfl⟩:=tB λz=>by
   rcases wx with⟨_|_|_|_|_|_|_⟩|_<;>first | exact False.elim h | (rcases wy with⟨_|_|_|_|_|_|_⟩|_<;>first | exact False.elim h | exact z ⟨_,_,rfl,rfl⟩)
  rw[aY r1]at rx;rw[aY r2]at ry;have h:bz X.K ads H Q (if 0<j then .ok (.d (.int (i % j))) M else .aa):=h;split at h
  ·rename_i hc
   exact Hv pins s σ H _ _ v u Q I rx ry ⟨_,_,rfl,rfl,hc,h.plain m (cQ _)⟩
  ·exact h.elim
 case pow =>
  obtain⟨i,j,rfl,rfl⟩:=tB λz=>by
   rcases wx with⟨_|_|_|_|_|_|_⟩|_<;>first | exact False.elim h | (rcases wy with⟨_|_|_|_|_|_|_⟩|_<;>first | exact False.elim h | exact z ⟨_,_,rfl,rfl⟩)
  rw[aY r1]at rx;rw[aY r2]at ry;have h:bz X.K ads H Q (if 0<=j/\j<=1000000/\i.natAbs<2 ^ 64 then .ok (.d (.int (i ^ j.toNat))) M else .aa):=h;split at h
  ·rename_i hc
   exact Hw pins s σ H _ _ v u Q I rx ry ⟨_,_,rfl,rfl,hc,h.plain m (cQ _)⟩
  ·exact h.elim
end
end
section
variable [EX]
section
variable {X:Cx} {pins:List (Addr×Obj)} {σ:L2.St} {H:Hp} {s:Shared} {ads:List Addr} {M:af}
theorem dr(I:Inv X pins σ H s)(n:Nat)(hA:∀d v u p,RD X.K ads H d v->RelV v u->eG M n d=some p->∃as,Reads s.heap u p as):∀(ds:List D)(vs:List V)(us:List Value)(ps:List PyData),aH X.K ads H ds vs->aE vs us->cw M n ds=some ps->∃as,ReadsAll s.heap us ps as
 | [],vs,us,ps,r,rv,e=>by
  unfold aH at r;subst r;cases rv;unfold cw at e;cases e;exact⟨[],.nil⟩
 | d::ds,vs,us,ps,r,rv,e=>by
  unfold aH at r;obtain⟨x,r',rfl,h1,h2⟩:=r
  cases rv with
  | cons rx rr =>
   unfold cw at e
   cases q1:eG M n d with
   | none=>rw[q1]at e;cases e
   | some p =>
    cases q2:cw M n ds with
    | none=>rw[q1,q2]at e;cases e
    | some qs =>
     rw[q1,q2]at e;cases e;obtain⟨as,k1⟩:=hA d x _ p h1 rx q1;obtain⟨bs,k2⟩:=dr I n hA ds r' _ qs h2 rr q2;exact⟨as++bs,.cons k1 k2⟩
theorem j0(I:Inv X pins σ H s)(m:aM X.K ads H M):∀(n:Nat)(d:D)(v:V)(u:Value)(p:PyData),RD X.K ads H d v->RelV v u->eG M n d=some p->∃as,Reads s.heap u p as:=by
 intro n
 induction n with
 | zero =>
  intro d v u p r rv e
  cases d with
  | fn _=>unfold eG at e;cases e
  | tg _=>unfold eG at e;cases e
  | ba=>unfold RD at r;subst r;cases rv;unfold eG at e;cases e;exact⟨_,.none⟩
  | bl b=>unfold RD at r;subst r;cases rv;unfold eG at e;cases e;exact⟨_,.bool _⟩
  | int b=>unfold RD at r;subst r;obtain⟨t,rfl⟩:=rv;unfold eG at e;cases e;exact⟨_,.int _ _⟩
  | str b=>unfold RD at r;subst r;obtain⟨t,rfl⟩:=rv;unfold eG at e;cases e;exact⟨_,.str _ _⟩
  | tup _=>unfold eG at e;cases e
  | aB _=>unfold eG at e;cases e
  | ls _=>unfold eG at e;cases e
 | succ n ih =>
  intro d v u p r rv e
  cases d with
  | fn _=>unfold eG at e;cases e
  | tg _=>unfold eG at e;cases e
  | ba=>unfold RD at r;subst r;cases rv;unfold eG at e;cases e;exact⟨_,.none⟩
  | bl b=>unfold RD at r;subst r;cases rv;unfold eG at e;cases e;exact⟨_,.bool _⟩
  | int b=>unfold RD at r;subst r;obtain⟨t,rfl⟩:=rv;unfold eG at e;cases e;exact⟨_,.int _ _⟩
  | str b=>unfold RD at r;subst r;obtain⟨t,rfl⟩:=rv;unfold eG at e;cases e;exact⟨_,.str _ _⟩
  | tup ds =>
   unfold RD at r;obtain⟨a,xs,rfl,hs,r⟩:=r;cases rv;unfold eG at e
   cases q:cw M n ds with
   | none=>rw[q]at e;cases e
   | some ps =>
    rw[q]at e;cases e;obtain⟨ar,rv,⟨o,h1,h2,k,h3⟩,_⟩:=I.tuple (fb.of (K:=X.K) hs);obtain⟨as,ra⟩:=dr I n ih ds xs ar ps r rv q;exact⟨as,.tuple h1 h2 h3 (by simpa using ra)⟩
  | ls ds =>
   unfold RD at r;obtain⟨a,xs,rfl,hs,r⟩:=r;cases rv;unfold eG at e
   cases q:cw M n ds with
   | none=>rw[q]at e;cases e
   | some ps =>
    rw[q]at e;cases e;obtain⟨ar,rv,⟨o,kk,h1,h2,h3,h4⟩,_⟩:=I.list hs.sq;obtain⟨as,ra⟩:=dr I n ih ds xs ar ps r rv q;exact⟨a::as,.list h1 h2 h4 (by simpa using ra)⟩
  | aB k =>
   unfold RD at r;obtain⟨a,rfl,ea⟩:=r;cases rv;unfold eG at e
   have lst:∀ds,eF X.K H a ds->∀es,aH X.K ads H es ds->(cw M n es).map PyData.list=some p->∃as,Reads s.heap (.ref a) p as:=by
    intro xs hs es r e
    cases q:cw M n es with
    | none=>rw[q]at e;cases e
    | some ps =>
     rw[q]at e;cases e;obtain⟨ar,rv,⟨o,kk,h1,h2,h3,h4⟩,_⟩:=I.list hs;obtain⟨as,ra⟩:=dr I n ih es xs ar ps r rv q;exact⟨a::as,.list h1 h2 h4 (by simpa using ra)⟩
   cases q:M[k]? with
   | none=>rw[q]at e;cases e
   | some o =>
    rw[q]at e;have ho:=m.obj k o a q ea
    cases o with
    | lst es=>obtain⟨xs,h,r⟩:=ho;exact lst xs (eF.of h) es r e
    | i9 es=>obtain⟨o,xs,h,r⟩:=ho;exact lst xs (.inl (.inr ⟨o,h⟩)) es r e
    | dK _=>cases e
    | dT _=>cases e
    | dF _=>cases e
    | dG _=>cases e
    | xc _ _=>cases e
theorem iF(I:Inv X pins σ H s)(m:aM X.K ads H M){w:W}{v:V}{u:Value}{p:PyData}(r:RW X.K ads H w v)(rv:RelV v u)(e:jZ M w=some p):∃as,Reads s.heap u p as:=by
 cases w with
 | d x=>exact j0 I m 30 x v u p r rv e
 | lv ds =>
  obtain⟨a,xs,rfl,h,n,r⟩:=r;cases rv;have e:(cw M 30 ds).map PyData.list=some p:=e
  cases q:cw M 30 ds with
  | none=>rw[q]at e;cases e
  | some ps =>
   rw[q]at e;cases e;obtain⟨ar,rv,⟨o,kk,h1,h2,h3,h4⟩,_⟩:=I.list (eF.of (K:=X.K) h);obtain⟨as,ra⟩:=dr I 30 (j0 I m 30) ds xs ar ps r rv q;exact⟨a::as,.list h1 h2 h4 (by simpa using ra)⟩
end
section
variable {K:PySem.W.Frag} {ads:List Addr} {H:Hp}
theorem cf.find{κ:Type}[DecidableEq κ]{k:κ}:∀{ao:List (κ×D)}{ks:List (κ×V)}{d:D},cf K ads H ao ks->(ao.find? λp=>decide (p.1=k)).map (·.2)=some d->∃v,jT ks k=some v/\RD K ads H d v
 | [],_,_,_,e=>by cases e
 | p::ps,ks,d,r,e=>by
  unfold cf at r;obtain⟨x,r',rfl,h0,h1,h2⟩:=r;by_cases hk:p.1=k
  ·have e':p.2=d:=by simpa[lV,hk]using e
   subst e';exact⟨x.2,ik (h0▸hk),h1⟩
  ·obtain⟨v,e1,rv⟩:=cf.find h2 (by simpa[lV,hk]using e);exact⟨v,(il (h0▸hk)).trans e1,rv⟩
theorem cf.len{κ:Type}:∀{ao:List (κ×D)}{ks:List (κ×V)},cf K ads H ao ks->ao.length=ks.length
 | [],_,r=>by unfold cf at r;subst r;rfl
 | p::ps,ks,r=>by unfold cf at r;obtain⟨x,r',rfl,h0,h1,h2⟩:=r;simp[cf.len h2]
end
noncomputable def IB:vE->CmpOp
 | .eq=>.Eq | .ne=>.NotEq | .lt=>.Lt | .le=>.LtE | .gt=>.Gt | .ge=>.GtE | .isN=>.Is | .notN=>.IsNot | .isin=>.In | .fj=>.NotIn | .O8=>.In
def FH(K:PySem.W.Frag)(ads:List Addr)(H:Hp)(Q:VK):bE Bool->Prop
 | .ok b M=>∀H' aq,ay ads aq H H'->aM K aq H' M->Q (.bl b) H'
 | .err x M=>EX.post K ads H x M
 | .aa=>False
def Cj(K:PySem.W.Frag)(op:vE):R2:=λx y H Q=>∃ads M wx wy,aM K ads H M/\RW K ads H wx x/\RW K ads H wy y/\((op=.isN\/op=.notN)->y=.ba)/\FH K ads H Q (bD op wx wy M)
theorem FH.now{K:PySem.W.Frag}{ads:List Addr}{H:Hp}{Q:VK}{b:Bool}{M:af}(h:FH K ads H Q (.ok b M))(m:aM K ads H M):Q (.bl b) H:=h H ads (ay.refl _ _) m
section
variable {X:Cx}
open Classical in
noncomputable def pQ(h:Heap)(p:PyData)(y:Value):Bool:=decide (∃q' Wu,Reads h y q' Wu/\PyData.eqv q' p=true)
open Classical in
theorem pR{h:Heap}{p q:PyData}{y:Value}{cs:List Addr}(ry:Reads h y q cs):pQ h p y=PyData.eqv q p:=by
 unfold pQ
 cases hb:PyData.eqv q p with
 | true=>exact dE ⟨q,cs,ry,hb⟩
 | false =>
  refine c_ ?_;rintro⟨q',Wu,Yx,Pm⟩;obtain⟨e,_⟩:=PyProof.Rows.reads_det (λ_ _ e _=>e) ry Yx;rw[<- e,Pm]at hb;cases hb
theorem y8{s:Shared}{A:Around}{x:Value}{p:PyData}{as:List Addr}(rx:Reads s.heap x p as)(hx:SeqAt.shaped p=true)(hu:A.units+65<cLine):∀{us:List Value}{qs:List PyData}{bs:List Addr},ReadsAll s.heap us qs bs->qs.all SeqAt.shaped=true->(∀y∈us,SeqAt.EqAt A.in1 s y x (pQ s.heap p y))/\us.any (pQ s.heap p)=pJ p qs
 | _,_,_,.nil,_=>⟨(λy hy=>by cases hy),rfl⟩
 | _,_,_,.cons (v:=v) (d:=q) ry rr,hq=>by
  rw[List.all_cons,aF]at hq;have Pm:=hq;obtain⟨k1,k2⟩:=y8 rx hx hu rr Pm.2;have e0:=SeqAt.eqAt_reads q p A.in1 s v x _ _ ry rx (SeqAt.canLay_of_shaped Pm.1) (SeqAt.canLay_of_shaped hx) (SeqAt.room_of_shaped Pm.1 (by show A.units+1+64<cLine;omega));rw[<- pR ry]at e0;refine⟨λy hy=>?_,?_⟩
  ·rcases bw.mp hy with z | z
   ·subst z;exact e0
   ·exact k1 y z
  ·rw[wI,k2,pR ry];rfl
theorem tD{s:Shared}{A:Around}{x:Value}{p:PyData}{as:List Addr}(rx:Reads s.heap x p as)(hx:SeqAt.shaped p=true)(hu:A.units+65<cLine){us:List Value}{qs:List PyData}{bs:List Addr}(r:ReadsAll s.heap us qs bs)(hq:qs.all SeqAt.shaped=true):∃e:Value->Bool,(∀y∈us,SeqAt.EqAt A.in1 s y x (e y))/\us.any e=pJ p qs :=
 ⟨pQ s.heap p,y8 rx hx hu r hq⟩
theorem vK:gI X (compareOp .LtE) (λx y H Q=>∃i j,x=.str i/\y=.str j/\Q (.bl (!decide (j.cps.toList<i.cps.toList))) H):=by
 intro pins s σ H x y v u Q I rx ry h;obtain⟨i,j,rfl,rfl,q⟩:=h;obtain⟨t,rfl⟩:=rx;obtain⟨t',rfl⟩:=ry;exact PySem.P.le_str ⟨.bl _,H,I,rfl,q⟩
theorem jv(hu:X.A.units+100<cLine)(op:vE):gI X (compareOp (IB op)) (Cj X.K op):=by
 intro pins s σ H x y v u Q I rx ry h;obtain⟨ads,M,wx,wy,m,r1,r2,hn,h⟩:=h;unfold bD at h
 cases op with
 | eq =>
  dsimp only at h;have FI:FH X.K ads H Q .aa->wpAny (model X.prog X.w) X.A (compareOp .Eq v u) (EP X pins σ Q) X.xe s:=λh=>h.elim
  cases q1:jZ M wx with
  | none=>rw[q1]at h;exact FI h
  | some p =>
   cases q2:jZ M wy with
   | none=>rw[q1,q2]at h;exact FI h
   | some q =>
    rw[q1,q2]at h;dsimp only at h;split at h
    ·rename_i hs
     obtain⟨as,ra⟩:=iF I m r1 rx q1;obtain⟨bs,rb⟩:=iF I m r2 ry q2;exact SeqAt.compareEq_shaped ra rb hs.1 hs.2 ∅ ⟨.bl _,H,I,rfl,h.now m⟩
    ·exact h.elim
 | ne =>
  dsimp only at h;have FJ:FH X.K ads H Q .aa->wpAny (model X.prog X.w) X.A (compareOp .NotEq v u) (EP X pins σ Q) X.xe s:=λh=>h.elim
  cases q1:jZ M wx with
  | none=>rw[q1]at h;exact FJ h
  | some p =>
   cases q2:jZ M wy with
   | none=>rw[q1,q2]at h;exact FJ h
   | some q =>
    rw[q1,q2]at h;dsimp only at h;split at h
    ·rename_i hs
     obtain⟨as,ra⟩:=iF I m r1 rx q1;obtain⟨bs,rb⟩:=iF I m r2 ry q2;exact SeqAt.compareNe_shaped ra rb hs.1 hs.2 ∅ ⟨.bl _,H,I,rfl,h.now m⟩
    ·exact h.elim
 | lt =>
  dsimp only at h;split at h
  ·rw[aY r1]at rx;rw[aY r2]at ry;exact Oe pins s σ H _ _ v u Q I rx ry ⟨_,_,rfl,rfl,h.now m⟩
  ·rw[bT r1]at rx;rw[bT r2]at ry;exact u_ pins s σ H _ _ v u Q I rx ry ⟨_,_,rfl,rfl,h.now m⟩
  ·exact h.elim
 | le =>
  dsimp only at h;split at h
  ·rw[aY r1]at rx;rw[aY r2]at ry;exact Of pins s σ H _ _ v u Q I rx ry ⟨_,_,rfl,rfl,h.now m⟩
  ·rw[bT r1]at rx;rw[bT r2]at ry;exact vK pins s σ H _ _ v u Q I rx ry ⟨_,_,rfl,rfl,h.now m⟩
  ·exact h.elim
 | gt =>
  dsimp only at h;split at h
  ·rw[aY r1]at rx;rw[aY r2]at ry;exact Og pins s σ H _ _ v u Q I rx ry ⟨_,_,rfl,rfl,h.now m⟩
  ·exact h.elim
 | ge =>
  dsimp only at h;split at h
  ·rw[aY r1]at rx;rw[aY r2]at ry;exact Oh pins s σ H _ _ v u Q I rx ry ⟨_,_,rfl,rfl,h.now m⟩
  ·exact h.elim
 | O8 =>
  dsimp only at h;split at h
  ·rw[bT r1]at rx;rw[bT r2]at ry;exact va pins s σ H _ _ v u Q I rx ry ⟨_,_,rfl,rfl,h.now m⟩
  ·exact h.elim
 | isN =>
  have e:=hn (.inl rfl)
  have hx:∀b,bD .isN wx wy M=.ok b M->b=decide (x=.ba):=by
   intro b e;unfold bD at e;dsimp only at e;split at e
   ·cases e;rw[kZ r1];rfl
   ·rename_i FK
    cases e;refine(c_ ?_).symm;intro z;subst z
    cases wx with
    | lv ds=>obtain⟨a,xs,e,_⟩:=r1;cases e
    | d z=>cases z with
     | fn b=>have r1:RD X.K ads H (.fn b) .ba:=r1;unfold RD at r1;cases r1
     | tg b=>have r1:RD X.K ads H (.tg b) .ba:=r1;unfold RD at r1;obtain⟨a,xs,e,_⟩:=r1;cases e
     | ba=>exact FK rfl
     | bl b=>have:=iE r1;cases this
     | int b=>have:=aY r1;cases this
     | str b=>have:=bT r1;cases this
     | tup b=>have r1:RD X.K ads H (.tup b) .ba:=r1;unfold RD at r1;obtain⟨a,xs,e,_⟩:=r1;cases e
     | aB b=>have r1:RD X.K ads H (.aB b) .ba:=r1;unfold RD at r1;obtain⟨a,e,_⟩:=r1;cases e
     | ls b=>have r1:RD X.K ads H (.ls b) .ba:=r1;unfold RD at r1;obtain⟨a,xs,e,_⟩:=r1;cases e
  subst e;have:∃b,bD .isN wx wy M=.ok b M:=by unfold bD;dsimp only;split<;>exact⟨_,rfl⟩
  obtain⟨b,hb⟩:=this;have h:FH X.K ads H Q (bD .isN wx wy M):=h;rw[hb]at h;refine Hy pins s σ H _ _ v u Q I rx ry ⟨rfl,?_⟩;rw[<- hx b hb];exact h.now m
 | notN =>
  have e:=hn (.inr rfl)
  have hx:∀b,bD .notN wx wy M=.ok b M->b=!decide (x=.ba):=by
   intro b e;unfold bD at e;dsimp only at e;split at e
   ·cases e;rw[kZ r1];rfl
   ·rename_i FK
    cases e
    have:decide (x=.ba)=false:=by
     refine c_ ?_;intro z;subst z
     cases wx with
     | lv ds=>obtain⟨a,xs,e,_⟩:=r1;cases e
     | d z=>cases z with
      | fn b=>have r1:RD X.K ads H (.fn b) .ba:=r1;unfold RD at r1;cases r1
      | tg b=>have r1:RD X.K ads H (.tg b) .ba:=r1;unfold RD at r1;obtain⟨a,xs,e,_⟩:=r1;cases e
      | ba=>exact FK rfl
      | bl b=>have:=iE r1;cases this
      | int b=>have:=aY r1;cases this
      | str b=>have:=bT r1;cases this
      | tup b=>have r1:RD X.K ads H (.tup b) .ba:=r1;unfold RD at r1;obtain⟨a,xs,e,_⟩:=r1;cases e
      | aB b=>have r1:RD X.K ads H (.aB b) .ba:=r1;unfold RD at r1;obtain⟨a,e,_⟩:=r1;cases e
      | ls b=>have r1:RD X.K ads H (.ls b) .ba:=r1;unfold RD at r1;obtain⟨a,xs,e,_⟩:=r1;cases e
    rw[this];rfl
  subst e;have:∃b,bD .notN wx wy M=.ok b M:=by unfold bD;dsimp only;split<;>exact⟨_,rfl⟩
  obtain⟨b,hb⟩:=this;have h:FH X.K ads H Q (bD .notN wx wy M):=h;rw[hb]at h;refine BA pins s σ H _ _ v u Q I rx ry ⟨rfl,?_⟩;rw[<- hx b hb];exact h.now m
 | isin=>exact h.elim
 | fj =>
  dsimp only at h
  cases q2:b_ M wy with
  | none =>
   rw[q2]at h;cases hp:jZ M wx<;>rw[hp]at h<;>exact h.elim
  | some Yy =>
   cases q1:jZ M wx with
   | none=>rw[q1,q2]at h;exact h.elim
   | some p =>
    obtain⟨l,ds⟩:=Yy;rw[q1,q2]at h;dsimp only at h
    cases q3:cw M 30 ds with
    | none=>rw[q3]at h;exact h.elim
    | some qs =>
     rw[q3]at h;dsimp only at h;split at h
     ·rename_i hs
      obtain⟨as,ra⟩:=iF I m r1 rx q1;obtain⟨a,xs,ea,rd,sq⟩:=e9 m r2 q2;subst ea;cases ry;rcases sq with⟨_,sq⟩|⟨_,sq⟩
      ·obtain⟨ar,rv,pl,_⟩:=I.list sq;obtain⟨bs,rb⟩:=dr I 30 (j0 I m 30) ds xs ar qs rd rv q3;obtain⟨e,he,IC⟩:=tD (A:=X.A) ra hs.1 ∅ rb hs.2;refine SeqAt.notIn_listAt e pl.isList (λy hy=>he y (by simpa using hy)) ⟨.bl _,H,I,rfl,?_⟩;have:ar.toArray.any e=pJ p qs:=by rw[<- IC];simp
       rw[this];exact h.now m
      ·obtain⟨ar,rv,pl,_⟩:=I.tuple sq;obtain⟨bs,rb⟩:=dr I 30 (j0 I m 30) ds xs ar qs rd rv q3;obtain⟨e,he,IC⟩:=tD (A:=X.A) ra hs.1 ∅ rb hs.2;refine SeqAt.notIn_tupleAt e (show s.heap.IsTuple a ar.toArray from pl) (λy hy=>he y (by simpa using hy)) ⟨.bl _,H,I,rfl,?_⟩;have:ar.toArray.any e=pJ p qs:=by rw[<- IC];simp
       rw[this];exact h.now m
     ·exact h.elim
end
end
section
variable [EX]
section
variable {K:PySem.W.Frag} {ads:List Addr} {H:Hp} {M:af}
theorem Pn{w:W}{v:V}{k:Bool}(m:aM K ads H M)(r:RW K ads H w v)(e:md M w=some k):ya K v H k:=by
 have seq:∀w,RW K ads H w v->((b_ M w).map λp=>!p.2.isEmpty)=some k->ya K v H k:=by
  intro w r e
  cases q:b_ M w with
  | none=>rw[q]at e;cases e
  | some p =>
   obtain⟨l,ds⟩:=p;rw[q]at e;have e:(!ds.isEmpty)=k:=cH e;obtain⟨a,xs,rfl,rd,sq⟩:=e9 m r q;have hl:=rd.len
   have ex:k=!xs.isEmpty:=by
    rw[<- e];cases ds<;>cases xs<;>simp_all
   rcases sq with⟨_,sq⟩|⟨_,sq⟩
   ·exact .inl ⟨xs,sq,ex⟩
   ·exact .inr (.inl ⟨xs,sq,ex⟩)
 cases w with
 | lv ds=>exact seq _ r e
 | d x =>
  cases x with
  | fn n=>exact seq _ r e
  | tg n=>exact seq _ r e
  | ba=>rw[kZ r];exact(cH e).symm
  | bl b=>rw[iE r];exact(cH e).symm
  | int i=>rw[aY r];exact(cH e).symm
  | str s=>exact seq _ r e
  | tup ds=>exact seq _ r e
  | aB n=>exact seq _ r e
  | ls n=>exact seq _ r e
theorem aH.oG{ds:List D}{xs:List V}{i:Int}{d:D}(r:aH K ads H ds xs)(e:L2.oG ds i=some d):∃v,L2.oG xs i=some v/\RD K ads H d v:=by
 unfold L2.oG at e⊢;rw[<- r.len]
 cases q:yx ds.length i with
 | none=>rw[q]at e;cases e
 | some j=>rw[q]at e;exact r.get e
theorem aH.cut{ds:List D}{xs:List V}{lo hi:Option Int}(r:aH K ads H ds xs):aH K ads H (cutD ds lo hi) (pv xs lo hi):=by
 unfold cutD pv;rw[<- r.len];exact(r.drop _).take _
theorem cf.any{κ:Type}[DecidableEq κ]{k:κ}:∀{ao:List (κ×D)}{ks:List (κ×V)},cf K ads H ao ks->(ao.any λkv=>decide (kv.1=k))=(ks.any λkv=>decide (kv.1=k))
 | [],_,r=>by unfold cf at r;subst r;rfl
 | p::ps,ks,r=>by unfold cf at r;obtain⟨x,r',rfl,h0,h1,h2⟩:=r;simp[cf.any h2,h0]
theorem cf.map{κ:Type}[DecidableEq κ]{k:κ}{d:D}{v:V}(rd:RD K ads H d v):∀{ao:List (κ×D)}{ks:List (κ×V)},cf K ads H ao ks->cf K ads H (ao.map λkv=>if kv.1=k then (kv.1,d) else kv) (ks.map λkv=>if kv.1=k then (kv.1,v) else kv)
 | [],_,r=>by unfold cf at r;subst r;simp;unfold cf;rfl
 | p::ps,ks,r=>by
  unfold cf at r;obtain⟨x,r',rfl,h0,h1,h2⟩:=r;simp only[d_];unfold cf;refine⟨_,_,rfl,?_,?_,cf.map rd h2⟩
  ·rw[h0];split<;>first | rfl | exact h0
  ·rw[h0];split<;>first | exact rd | exact h1
theorem cf.app{κ:Type}:∀{ao es:List (κ×D)}{ks fs:List (κ×V)},cf K ads H ao ks->cf K ads H es fs->cf K ads H (ao++es) (ks++fs)
 | [],_,_,_,r,q=>by unfold cf at r;subst r;exact q
 | p::ps,es,ks,fs,r,q=>by
  unfold cf at r;obtain⟨x,r',rfl,h0,h1,h2⟩:=r;show cf K ads H (p::(ps++es)) (x::(r'++fs));unfold cf;exact⟨x,_,rfl,h0,h1,cf.app h2 q⟩
theorem cf.put{κ:Type}[DecidableEq κ]{k:κ}{d:D}{v:V}{ao:List (κ×D)}{ks:List (κ×V)}(r:cf K ads H ao ks)(rd:RD K ads H d v):cf K ads H (pM ao k d) (eL ks k v):=by
 unfold pM eL;rw[r.any (k:=k)];split
 ·exact cf.map rd r
 ·refine r.app ?_;unfold cf;exact⟨_,[],rfl,rfl,rd,by unfold cf;rfl⟩
end
section
variable {X:Cx} {M':af}
def Oi(K:PySem.W.Frag):R2:=λx y H Q=>∃ads M wx wy,aM K ads H M/\RW K ads H wx x/\RW K ads H wy y/\bz K ads H Q (dN wx wy M)
theorem ID(hu:X.A.units+1<cLine):OE X (Oi X.K):=by
 intro value eh pins s σ H x y v u Q I rx ry h hs;obtain⟨ads,M,wx,wy,m,r1,r2,h⟩:=h;unfold dN at h;split at h
 ·rename_i i
  have ey:=aY r2;subst ey
  cases q:b_ M wx with
  | some p =>
   obtain⟨l,ds⟩:=p;rw[q]at h;dsimp only at h
   cases q2:FC ds i with
   | none=>rw[q2]at h;exact h.elim
   | some d =>
    rw[q2]at h;obtain⟨a,xs,rfl,rd,sq⟩:=e9 m r1 q;obtain⟨z,e2,rz⟩:=rd.oG q2;rcases sq with⟨_,sq⟩|⟨_,sq⟩
    ·exact BR value eh pins s σ H _ _ v u Q I rx ry ⟨a,xs,i,z,rfl,rfl,sq,e2,h.plain m rz⟩ hs
    ·exact yz value eh pins s σ H _ _ v u Q I rx ry ⟨a,xs,i,z,rfl,rfl,sq,e2,h.plain m rz⟩ hs
  | none =>
   rw[q]at h;dsimp only at h;split at h
   ·split at h
    ·rename_i z hz
     have ex:=bT r1;subst ex
     cases q2:L2.oG z.cps.toList i with
     | none=>rw[q2]at h;exact h.elim
     | some c =>
      rw[q2]at h;exact HM value eh pins s σ H _ _ v u Q I rx ry ⟨_,i,c,rfl,rfl,hz,q2,h.plain m (eA _)⟩ hs
    ·exact h.elim
   ·rename_i ds
    have r1:RD X.K ads H (.tg ds) x:=r1;unfold RD at r1;obtain⟨a,xs,rfl,kt,rd⟩:=r1
    cases q2:FC ds i with
    | none=>rw[q2]at h;exact h.elim
    | some d =>
     rw[q2]at h;obtain⟨z,e2,rz⟩:=rd.oG q2;exact yz value eh pins s σ H _ _ v u Q I rx ry ⟨a,xs,i,z,rfl,rfl,.inr kt,e2,h.plain m rz⟩ hs
   ·rename_i n
    have r1:RD X.K ads H (.aB n) x:=r1;unfold RD at r1;obtain⟨a,rfl,ea⟩:=r1;split at h
    ·rename_i ao q
     obtain⟨ks,hk,rk⟩:=m.obj n _ a q ea;split at h
     ·rename_i d q2
      obtain⟨z,e2,rz⟩:=rk.find (k:=Sum.inl i) q2;cases rx;have g:nE H a (kV (Sum.inl i)) (some z):=by have:=nE.k (k:=Sum.inl i) hk;rw[e2]at this;exact this
      exact tail_any (f_ I g) F.slot_dict_getitem.lookup (jm hu I g ry λw' s' I' qY=>⟨z,H,I',qY,h.plain m rz⟩) hs
     ·exact h.elim
    ·rename_i ao q
     obtain⟨o,ks,hk,rk⟩:=m.obj n _ a q ea;split at h
     ·rename_i d q2
      obtain⟨z,e2,rz⟩:=rk.find (k:=Sum.inl i) q2;cases rx;have g:nE H a (kV (Sum.inl i)) (some z):=.inl ⟨ks,Sum.inl i,.inr ⟨o,hk⟩,rfl,e2.symm⟩;exact tail_any (f_ I g) F.slot_dict_getitem.lookup (jm hu I g ry λw' s' I' qY=>⟨z,H,I',qY,h.plain m rz⟩) hs
     ·exact h.elim
    ·exact h.elim
   ·exact h.elim
 ·rename_i k
  have ey:=bT r2;subst ey;split at h
  ·rename_i n
   have r1:RD X.K ads H (.aB n) x:=r1;unfold RD at r1;obtain⟨a,rfl,ea⟩:=r1;split at h
   ·rename_i ao q
    obtain⟨ks,hk,rk⟩:=m.obj n _ a q ea;split at h
    ·rename_i d q2
     obtain⟨z,e2,rz⟩:=rk.find (k:=Sum.inr k) q2;cases rx;have g:nE H a (kV (Sum.inr k)) (some z):=by have:=nE.k (k:=Sum.inr k) hk;rw[e2]at this;exact this
     exact tail_any (f_ I g) F.slot_dict_getitem.lookup (jm hu I g ry λw' s' I' qY=>⟨z,H,I',qY,h.plain m rz⟩) hs
    ·exact h.elim
   ·exact h.elim
  ·exact h.elim
 ·exact h.elim
def Ub(K:PySem.W.Frag):V->Option Int->Option Int->Hp->VK->Prop:=λx lo hi H Q=>∃ads M wx,aM K ads H M/\RW K ads H wx x/\bz K ads H Q (kM wx lo hi M)
theorem IE:OC X (Ub X.K):=by
 intro pins s σ H x v vl vu lo hi sl Q I rx hs pl pu h;obtain⟨ads,M,wx,m,r1,h⟩:=h;unfold kM at h;split at h
 ·rename_i ds q
  obtain⟨a,xs,rfl,rd,sq⟩:=e9 m r1 q;rcases sq with⟨_,sq⟩|⟨e,_⟩
  ·exact BS pins s σ H _ v vl vu lo hi sl Q I rx hs pl pu ⟨a,xs,rfl,sq,λp hp=>h.list m rd.cut hp⟩
  ·cases e
 ·rename_i ds q
  obtain⟨a,xs,rfl,rd,sq⟩:=e9 m r1 q;rcases sq with⟨e,_⟩|⟨_,sq⟩
  ·cases e
  ·by_cases hw:HT.cF ds.length 0 lo=0/\HT.cF ds.length ds.length hi=ds.length
   ·have e:cutD ds lo hi=ds:=by
     unfold cutD;rw[hw.1,hw.2,List.drop_zero,Nat.sub_zero,fy]
    rw[e]at h;refine B4 pins s σ H _ v vl vu lo hi sl Q I rx hs pl pu ⟨a,xs,rfl,sq,by rw[<- rd.len];exact hw,h.plain m ?_⟩;rcases wx with d | l
    ·cases d with
     | tup es=>cases q;exact r1
     | aB n =>
      unfold b_ at q
      try dsimp only at q
      split at q<;>cases q
     | _=>cases q
    ·cases q
   ·refine HL pins s σ H _ v vl vu lo hi sl Q I rx hs pl pu ⟨a,xs,rfl,sq,by rw[<- rd.len];exact hw,λp hp=>h.tuple m rd.cut hp⟩
 ·exact h.elim
theorem bz.Uc{K:PySem.W.Frag}{ads:List Addr}{H:Hp}{Q:VK}{M:af}{ao:List (bZ×D)}{ks:List (bZ×V)}{p:Addr}(q:bz K ads H Q (.ok (.d (.aB M.length)) (M++[.dK ao])))(m:aM K ads H M)(hp:H p=none)(r:cf K ads H ao ks):Q (.ref p) (bH H p (.dK ks)):=by
 have pn:=m.fresh hp;have g0:ay ads ads H (bH H p (.dK ks)):=ay.gc m hp;have m1:aM K ads (bH H p (.dK ks)) M:=m.gc hp;have m2:=m1.push (o:=.dK ao) pn ⟨_,bW,g0.yS _ _ r⟩;refine q (.ref p) _ (ads++[p]) ⟨⟨[p],rfl⟩,λb hb nb=>?_,g0.kept,g0.fQ,g0.fP⟩ m2 ?_
 ·rcases fN.mp hb with z | z
  ·exact absurd z nb
  ·have:b=p:=by simpa using z
   subst this;exact hp
 ·show RD K (ads++[p]) (bH H p (.dK ks)) (.aB M.length) (.ref p);unfold RD;exact⟨p,rfl,by rw[lT (by rw[m.len];exact a7 _)];simp[m.len]⟩
def AS(K:PySem.W.Frag)(ads:List Addr)(H:Hp):List W->List V->Prop
 | [],vs=>vs=[]
 | w::ws,vs=>∃v r,vs=v::r/\RW K ads H w v/\AS K ads H ws r
def FL(K:PySem.W.Frag)(b:Bi):List V->Hp->VK->Prop:=λvs H Q=>∃ads M ws,aM K ads H M/\AS K ads H ws vs/\bz K ads H Q (ja b ws M)
theorem AS.one{K:PySem.W.Frag}{ads:List Addr}{H:Hp}{w:W}{vs:List V}(r:AS K ads H [w] vs):∃v,vs=[v]/\RW K ads H w v:=by
 obtain⟨v,r,rfl,h,h2⟩:=r;have h2:r=[]:=h2;subst h2;exact⟨v,rfl,h⟩
theorem AS.two{K:PySem.W.Frag}{ads:List Addr}{H:Hp}{w w2:W}{vs:List V}(r:AS K ads H [w,w2] vs):∃v v2,vs=[v,v2]/\RW K ads H w v/\RW K ads H w2 v2:=by
 obtain⟨v,r,rfl,h,h2⟩:=r;obtain⟨v2,rfl,h3⟩:=AS.one h2;exact⟨v,v2,rfl,h,h3⟩
theorem IF:eM X (.builtin "len") (FL X.K .len):=by
 intro pins s σ H xs us Q I r h;obtain⟨ads,M,ws,m,rw,h⟩:=h;rcases ws with _|⟨w,_|⟨w2,ws⟩⟩
 ·exact h.elim
 ·obtain⟨v,rfl,rv⟩:=rw.one;unfold ja at h;dsimp only at h;split at h
  ·rename_i l ds q
   obtain⟨a,ys,rfl,rd,sq⟩:=e9 m rv q;refine iq pins s σ H _ us Q I r ⟨a,ys,rfl,?_,by rw[<- rd.len];exact h.plain m (cQ _)⟩;rcases sq with⟨_,sq⟩|⟨_,sq⟩
   ·exact .inl sq
   ·exact .inr sq
  ·split at h
   ·split at h
    ·rename_i hz
     have e1:=bT rv;subst e1;exact nJ pins s σ H _ us Q I r ⟨_,rfl,hz,h.plain m (cQ _)⟩
    ·exact h.elim
   ·rename_i ds q0
    have rv:RD X.K ads H (.tg ds) v:=rv;unfold RD at rv;obtain⟨a,ys,rfl,kt,rd⟩:=rv;exact iq pins s σ H _ us Q I r ⟨a,ys,rfl,.inr (.inr kt),by rw[<- rd.len];exact h.plain m (cQ _)⟩
   ·exact h.elim
 ·exact h.elim
theorem rG {pins : List (Addr × Obj)} {σ : L2.St} {H : Hp} {s : Shared} {a : Addr} {xs : List V} {A : Around} (hh : A.handled = none) (I : Inv X pins σ H s) (sq : eF X.K H a xs \/ fb X.K H a xs) {Q : Value -> Shared -> Prop} {E : Value -> Shared -> Prop}
    (q:∀(ar:List Value)(I1:Addr)(fp wr:List Addr)(St:Nat->Heap->Prop)(s2:Shared),aE xs ar->Walks X.prog X.w A I1 fp wr ar.length (λi v=>ar[i]?=some v) St->St 0 s2.heap->(∀b∈fp,b<s2.heap.objs.size) ->
      (∀h' tk,(∀b o,b∉wr->s2.heap.get? b=some o->h'.get? b=some o)->Inv X pins σ H {s2 with heap:=h',toks:=tk})->(∀b∈wr,s.heap.objs.size<=b)->Q (.ref I1) s2):wpAny (model X.prog X.w) A (pyIter (.ref a)) Q E s:=by
  have kp:∀{o:Obj}{h':Heap}{tk:Nat},(∀b u,b∉[s.heap.objs.size]->(s.heap.push o).get? b=some u->h'.get? b=some u)->Inv X pins σ H {s with heap:=h',toks:=tk}:=λ{o h' tk} k =>
    I.kept λb u e=>k b u (λz=>by
      have hb:b=s.heap.objs.size:=by simpa using z
      exact absurd (cg e) (by rw[hb];exact jO _)) (bQ _ e)
  rcases sq with sq | sq
  · obtain⟨ar,rv,pl,hz⟩:=I.list sq;obtain⟨o,ho,hc,n,hd⟩:=pl.isList;have Ck:=cg ho;have W:=Walks.list (prog:=X.prog) (w:=X.w) hh s.heap.objs.size a (fg Ck) ar.toArray;simp only[cB,List.getElem?_toArray]at W;refine uL pl.isList (q ar _ _ _ _ _ rv W ⟨⟨_,d5 _ rfl,rfl,rfl⟩,⟨o,bQ _ ho,hc,n,hd⟩⟩ (λb hb=>?_) (λh' tk k=>kp k) λb hb=>na (by simpa using hb:b=s.heap.objs.size).symm);show b<(s.heap.push _).objs.size;rw[kc];have hb:b=s.heap.objs.size\/b=a:=by simpa using hb
    rcases hb with z | z
    · rw[z];exact uN _
    · rw[z];exact Bj Ck
  · obtain⟨ar,rv,pl,hz⟩:=I.tuple sq;obtain⟨o,ho,hc,n,hd⟩:=id pl;have Ck:=cg ho;have W:=Walks.tuple (prog:=X.prog) (w:=X.w) hh s.heap.objs.size a (fg Ck) ar.toArray;simp only[cB,List.getElem?_toArray]at W;refine uJ (show s.heap.IsTuple a ar.toArray from pl) (q ar _ _ _ _ _ rv W ⟨⟨_,d5 _ rfl,rfl,rfl⟩,⟨o,bQ _ ho,hc,n,hd⟩⟩ (λb hb=>?_) (λh' tk k=>kp k) λb hb=>na (by simpa using hb:b=s.heap.objs.size).symm);show b<(s.heap.push _).objs.size;rw[kc];have hb:b=s.heap.objs.size\/b=a:=by simpa using hb
    rcases hb with z | z
    · rw[z];exact uN _
    · rw[z];exact Bj Ck
theorem vL {pins : List (Addr × Obj)} {σ : L2.St} {H : Hp} {s : Shared} {a : Addr} {xs : List V} {A : Around} (hh : A.handled = none) (I : Inv X pins σ H s) (sq : eF X.K H a xs \/ fb X.K H a xs) {Q : Value -> Shared -> Prop} {E : Value -> Shared -> Prop}
    (q:∀(ar:List Value)(I1:Addr)(fp wr:List Addr)(St:Nat->Heap->Prop)(s2:Shared),aE xs ar->Walks X.prog X.w A I1 fp wr ar.length (λi v=>ar[i]?=some v) St->St 0 s2.heap->(∀b∈fp,b<s2.heap.objs.size) ->
      (∀h' tk,(∀b o,b∉wr->s2.heap.get? b=some o->h'.get? b=some o)->Inv X pins σ H {s2 with heap:=h',toks:=tk})->Q (.ref I1) s2):wpAny (model X.prog X.w) A (pyIter (.ref a)) Q E s :=
  rG hh I sq λar I1 fp wr St s2 a b c d e _=>q ar I1 fp wr St s2 a b c d e
theorem y9{K:PySem.W.Frag}{ads:List Addr}{H:Hp}:∀{ds:List D}{bs:List Bool}{ys:List V}{ar:List Value},pK ds=some bs->aH K ads H ds ys->aE ys ar->ar=bs.map Value.bool
 | [],bs,ys,ar,e,r,v=>by
  cases e;unfold aH at r;subst r;cases v;rfl
 | d::ds,bs,ys,ar,e,r,v=>by
  unfold aH at r;obtain⟨x,r',rfl,h1,h2⟩:=r;cases d<;>first | cases e | skip
  rename_i b
  unfold RD at h1;subst h1
  cases v with
  | cons hv hr =>
   cases hv;unfold pK at e
   cases q:pK ds with
   | none=>rw[q]at e;cases e
   | some cs =>
    rw[q]at e;cases e;rw[y9 q h2 hr];rfl
theorem vM(bs:List Bool):(List.range bs.length).all (λi=>bs.getD i true)=bs.all id:=by
 rw[Bool.eq_iff_iff,jN,jN];constructor
 ·intro h b hb;obtain⟨i,hi,rfl⟩:=Be.mp hb;have:=h i (List.mem_range.mpr hi);simpa[Gp,hi]using this
 ·intro h i hi;have hi:=List.mem_range.mp hi;have:=h bs[i] (List.getElem_mem hi);simpa[Gp,hi]using this
theorem vN{A:Around}(bs:List Bool):TruthOf X.prog X.w A (λi v=>(bs.map Value.bool)[i]?=some v) λi=>bs.getD i true:=by
 intro i v s Q E hP hQ;rw[ff]at hP
 cases q:bs[i]? with
 | none=>rw[q]at hP;cases hP
 | some b =>
  rw[q]at hP;cases hP;have e:bs.getD i true=b:=by rw[Gp,q];rfl
  have hQ:Q (bs.getD i true) s:=hQ;rw[e]at hQ;unfold truthy;exact bg hQ
theorem IG(hc:X.calm=true):eM X (.builtin "all") (FL X.K .all1):=by
 intro pins s σ H xs us Q I r h;obtain⟨ads,M,ws,m,rw,h⟩:=h;rcases ws with _|⟨w,_|⟨w2,ws⟩⟩
 ·exact h.elim
 ·obtain⟨v,rfl,rv⟩:=rw.one;unfold ja at h;dsimp only at h;split at h
  ·rename_i l ds q
   split at h
   ·rename_i bs qb
    obtain⟨a,ys,rfl,rd,sq⟩:=e9 m rv q;obtain⟨u,rfl,ru⟩:=vals1 r;cases ru;refine call_all_walk (vL (A:=X.A.in1) (I.ok.hd hc) I (sq.elim (λz=>.inl z.2) λz=>.inr z.2) λar I1 fp wr St s2 vs W st hfp inv=>?_);have e:=y9 qb rd vs;subst e;refine⟨I1,fp,wr,(bs.map Value.bool).length,_,St,λi=>bs.getD i true,rfl,W,st,vN bs,λh' tk hk=>⟨.bl (bs.all id),H,inv h' tk hk,?_,h.plain m (jK _)⟩⟩;rw[aR,vM];rfl
   ·exact h.elim
  ·exact h.elim
 ·exact h.elim
theorem Cm:eM X (.type "list") (FL X.K .list1):=by
 intro pins s σ H xs us Q I r h;obtain⟨ads,M,ws,m,rw,h⟩:=h;rcases ws with _|⟨w,_|⟨w2,ws⟩⟩
 ·exact h.elim
 ·obtain⟨v,rfl,rv⟩:=rw.one;unfold ja at h;dsimp only at h;split at h
  ·rename_i l ds q
   obtain⟨a,ys,rfl,rd,sq⟩:=e9 m rv q;refine nK pins s σ H _ us Q I r ⟨a,ys,rfl,?_,λp hp=>h.list m rd hp⟩;rcases sq with⟨_,sq⟩|⟨_,sq⟩
   ·exact .inl sq
   ·exact .inr sq
  ·exact h.elim
 ·exact h.elim
theorem y_:eM X (.type "tuple") (FL X.K .tuple1):=by
 intro pins s σ H xs us Q I r h;obtain⟨ads,M,ws,m,rw,h⟩:=h;rcases ws with _|⟨w,_|⟨w2,ws⟩⟩
 ·exact h.elim
 ·obtain⟨v,rfl,rv⟩:=rw.one;unfold ja at h;dsimp only at h;split at h
  ·rename_i l ds q
   have hq:=q;obtain⟨a,ys,rfl,rd,sq⟩:=e9 m rv q;rcases sq with⟨_,sq⟩|⟨el,sq⟩
   ·exact gQ pins s σ H _ us Q I r ⟨a,ys,rfl,.inl ⟨sq,λp hp=>h.tuple m rd hp⟩⟩
   ·refine gQ pins s σ H _ us Q I r ⟨a,ys,rfl,.inr ⟨sq,h.plain m ?_⟩⟩;subst el
    cases w with
    | lv es=>cases hq
    | d x =>
     cases x with
     | tup es =>
      have e:es=ds:=by simpa[b_]using hq
      subst e;exact rv
     | aB n =>
      simp only[b_]at hq;split at hq<;>cases hq
     | ls _=>cases hq
     | ba=>cases hq
     | bl _=>cases hq
     | int _=>cases hq
     | str _=>cases hq
     | fn _=>cases hq
     | tg _=>cases hq
  ·exact h.elim
 ·exact h.elim
theorem IH:eM X (.type "int") (FL X.K .kK):=by
 intro pins s σ H xs us Q I r h;obtain⟨ads,M,ws,m,rw,h⟩:=h;rcases ws with _|⟨w,_|⟨w2,ws⟩⟩
 ·exact h.elim
 ·obtain⟨v,rfl,rv⟩:=rw.one
  cases w with
  | lv ds=>exact h.elim
  | d x =>
   cases x with
   | int i =>
    have e:=aY rv;subst e;exact mq pins s σ H _ us Q I r (.inl ⟨i,rfl,bz.plain h m (cQ _)⟩)
   | bl i =>
    have e:=iE rv;subst e;exact mq pins s σ H _ us Q I r (.inr ⟨i,rfl,bz.plain h m (cQ _)⟩)
   | ba=>exact h.elim
   | str y =>
    have e:=bT rv;subst e
    cases r with
    | cons r1 r2 =>
     cases r2;obtain⟨t,rfl⟩:=r1;unfold ja at h;dsimp only at h
     cases q:PySem.intText? y with
     | none=>rw[q]at h;exact h.elim
     | some n =>
      rw[q]at h;dsimp only at h;by_cases hl:y.length<=640
      ·rw[aG hl]at h;exact PySem.W.KIN.call_text q hl ⟨.int n,H,I.tok _,⟨_,rfl⟩,bz.plain h m (cQ _)⟩
      ·rw[aT hl]at h;exact h.elim
   | tup _=>exact h.elim
   | aB _=>exact h.elim
   | ls _=>exact h.elim
   | fn _=>exact h.elim
   | tg _=>exact h.elim
 ·rcases w with⟨_|_|_|_|_|_⟩|_<;>exact h.elim
theorem II:eM X (.type "str") (FL X.K .str1):=by
 intro pins s σ H xs us Q I r h;obtain⟨ads,M,ws,m,rw,h⟩:=h;rcases ws with _|⟨w,_|⟨w2,ws⟩⟩
 ·exact h.elim
 ·obtain⟨v,rfl,rv⟩:=rw.one;rcases w with⟨_|_ | i | x | _|_|_⟩|_<;>first | exact h.elim | skip
  case str =>
   obtain⟨u,rfl,ru⟩:=vals1 r;rw[bT rv]at ru;obtain⟨t,rfl⟩:=ru;exact PySem.P.str_of_str ⟨.str _,H,I,⟨_,rfl⟩,h.plain m (eA _)⟩
  have h:bz X.K ads H Q (if i.natAbs.log2<1920 then .ok (.d (.str (Str.ofString (toString i)))) M else .aa):=h;split at h
  ·rename_i hi
   obtain⟨u,rfl,ru⟩:=vals1 r;rw[aY rv]at ru;obtain⟨t,rfl⟩:=ru;exact PySem.P.str_of_int hi ⟨.str _,H,I.tok _,⟨_,rfl⟩,h.plain m (eA _)⟩
  ·exact h.elim
 ·rcases w with⟨_|_|_|_|_|_|_⟩|_<;>exact h.elim
noncomputable def pS:Ty->String
 | .int => "int" | .bool => "bool" | .str => "str" | .tuple => "tuple" | .list => "list" | .dict => "dict" | .none => "NoneType"
theorem Cn(K:PySem.W.Frag):∀g t:Ty,PySem.W.kitOne K (.type (pS g)) (.type (pS t))=some (decide (g=t)||(decide (g=.bool)&&decide (t=.int))):=by
 intro g t;cases g<;>cases t<;>kernel_rfl
theorem IJ{K:PySem.W.Frag}{ads:List Addr}{H:Hp}{M:af}{w:W}{v:V}{g:Ty}(m:aM K ads H M)(r:RW K ads H w v)(e:B_ M w=some g):jk K H v (.type (pS g)):=by
 cases w with
 | lv ds=>cases e;obtain⟨a,xs,rfl,h,_⟩:=r;exact .lst h
 | d x =>
  cases x with
  | ba=>cases e;rw[kZ r];exact .ba
  | bl b=>cases e;rw[iE r];exact .bl b
  | int b=>cases e;rw[aY r];exact .int b
  | str b=>cases e;rw[bT r];exact .str b
  | ls b=>cases e
  | tup b=>cases e;have r:RD K ads H (.tup b) v:=r;unfold RD at r;obtain⟨a,xs,rfl,h,_⟩:=r;exact .tup h
  | aB n =>
   have r:RD K ads H (.aB n) v:=r;unfold RD at r;obtain⟨a,rfl,ea⟩:=r;unfold B_ at e;dsimp only at e
   cases q:M[n]? with
   | none=>rw[q]at e;cases e
   | some o =>
    rw[q]at e;have ho:=m.obj n o a q ea
    cases o with
    | lst es=>cases e;obtain⟨xs,h,_⟩:=ho;exact .lst h
    | i9 es=>cases e;obtain⟨o,xs,h,_⟩:=ho;exact .fP h
    | dK es=>cases e;obtain⟨xs,h,_⟩:=ho;exact .dK h
    | dT es=>cases e;obtain⟨xs,h,_⟩:=ho;exact .dT h
    | dF es=>cases e
    | dG es=>cases e
    | xc _ _=>cases e
  | fn _=>cases e
  | tg _=>cases e
theorem IK(t:Ty):eM X (.builtin "isinstance") (λvs H Q=>∃v,vs=[v,.ty (pS t)]/\FL X.K (.i_ t) [v] H Q):=by
 intro pins s σ H xs us Q I r h;obtain⟨v,rfl,ads,M,ws,m,rw,h⟩:=h;obtain⟨u,u2,rfl,r1,r2⟩:=vals2 r;rcases ws with _|⟨w,_|⟨w2,ws⟩⟩
 ·exact h.elim
 ·obtain⟨v',e,rv⟩:=rw.one;cases e;unfold ja at h;dsimp only at h;split at h
  ·rename_i g q
   have e2:u2=Value.type (pS t):=r2;subst e2;exact vc I r1 (IJ m rv q) (Cn X.K g t) λtk=>⟨.bl _,H,I.tok tk,rfl,h.plain m (jK _)⟩
  ·exact h.elim
 ·obtain⟨_,_,e,_,_,_,e2,_⟩:=rw;cases e;cases e2
end
end
section
variable [EX]
section
variable {X:Cx}
def Po(K:PySem.W.Frag)(me:Me):V->List V->Hp->VK->Prop:=λx vs H Q=>∃ads M wx ds,aM K ads H M/\RW K ads H wx x/\aH K ads H ds vs/\bz K ads H Q (oJ me wx ds M)
theorem aH.Pp{K:PySem.W.Frag}{ads:List Addr}{H:Hp}{d:D}{vs:List V}(r:aH K ads H [d] vs):∃v,vs=[v]/\RD K ads H d v:=by
 unfold aH at r;obtain⟨v,r',rfl,h,h2⟩:=r;unfold aH at h2;subst h2;exact⟨v,rfl,h⟩
theorem aH.Ud{K:PySem.W.Frag}{ads:List Addr}{H:Hp}{vs:List V}(r:aH K ads H [] vs):vs=[]:=by
 unfold aH at r;exact r
theorem aH.Ue{K:PySem.W.Frag}{ads:List Addr}{H:Hp}{d e:D}{vs:List V}(r:aH K ads H [d,e] vs):∃v w,vs=[v,w]/\RD K ads H d v/\RD K ads H e w:=by
 unfold aH at r;obtain⟨v,r',rfl,h,h2⟩:=r;obtain⟨w,rfl,h3⟩:=h2.Pp;exact⟨v,w,rfl,h,h3⟩
theorem bz.wrote{K:PySem.W.Frag}{ads:List Addr}{H:Hp}{M:af}{n:Nat}{a:Addr}{ds es:List D}{ys:List V}{x:D}{Q:VK}{v:V}(h:bz K ads H Q (.ok (.d x) (M.set n (.lst es))))(m:aM K ads H M)(q:M[n]?=some (.lst ds))(ea:ads[n]?=some a)(ha:∃xs,H a=some (.lst xs))(ry:aH K ads H es ys)(rx:RD K ads (bH H a (.lst ys)) x v):Q v (bH H a (.lst ys)):=by
 obtain⟨xs,ha⟩:=ha;have nf:∀o x,H a≠some (.fP o x):=λo x z=>by rw[ha]at z;cases z
 have g:ay ads ads H (bH H a (.lst ys)):=by
  have Ie:a∈ads:=cT ea
  exact⟨⟨[],by simp⟩,λb h n=>absurd h n,λb x nb h=>by rw[ax (by intro z;subst z;exact nb Ie)];exact h,λb xs h=>by
   rw[ax (λz=>by subst z;rw[ha]at h;cases h)];exact h,λb o u h=>by rw[ax (λz=>by subst z;exact nf _ _ h)];exact h⟩
 obtain⟨g',m'⟩:=m.write (o:=.lst es) (ho:=.lst ys) q ea nf ⟨ys,bW,g.l9 _ _ ry⟩;exact h v _ ads g m' rx
theorem mI:BQ X "list.append" (Po X.K .append):=by
 intro pins s σ H x vs v us Q I rx rv h;obtain⟨ads,M,wx,ds,m,r1,r2,h⟩:=h;rcases wx with⟨_|_|_|_|_ | n⟩|_<;>first | exact h.elim | skip
 have r1:RD X.K ads H (.aB n) x:=r1;unfold RD at r1;obtain⟨a,rfl,ea⟩:=r1;unfold oJ at h;dsimp only at h
 cases q:M[n]? with
 | none=>rw[q]at h;exact h.elim
 | some o =>
  rw[q]at h
  cases o with
  | lst es =>
   rcases ds with _|⟨d,_|⟨d2,ds⟩⟩
   ·exact h.elim
   ·dsimp only at h;split at h
    ·rename_i hz
     obtain⟨y,rfl,ry⟩:=r2.Pp;obtain⟨xs,ha,rd⟩:=m.obj n _ a q ea;exact mC pins s σ H _ _ v us Q I rx rv ⟨a,xs,y,rfl,rfl,ha,by rw[<- rd.len];exact hz,bz.wrote h m q ea ⟨xs,ha⟩ (rd.app (.one ry)) hG⟩
    ·exact h.elim
   ·exact h.elim
  | i9 _=>exact h.elim
  | dK _=>exact h.elim
  | dT _=>exact h.elim
  | dF _=>exact h.elim
  | dG _=>exact h.elim
  | xc _ _=>exact h.elim
theorem pT:BQ X "list.clear" (Po X.K .clear):=by
 intro pins s σ H x vs v us Q I rx rv h;obtain⟨ads,M,wx,ds,m,r1,r2,h⟩:=h;rcases wx with⟨_|_|_|_|_ | n⟩|_<;>first | exact h.elim | skip
 have r1:RD X.K ads H (.aB n) x:=r1;unfold RD at r1;obtain⟨a,rfl,ea⟩:=r1;unfold oJ at h;dsimp only at h
 cases q:M[n]? with
 | none=>rw[q]at h;exact h.elim
 | some o =>
  rw[q]at h
  cases o with
  | lst es =>
   rcases ds with _|⟨d,ds⟩
   ·have e0:=r2.Ud;subst e0;obtain⟨xs,ha,rd⟩:=m.obj n _ a q ea;exact yF pins s σ H _ _ v us Q I rx rv ⟨a,xs,rfl,rfl,ha,bz.wrote h m q ea ⟨xs,ha⟩ (by unfold aH;rfl) hG⟩
   ·exact h.elim
  | i9 _=>exact h.elim
  | dK _=>exact h.elim
  | dT _=>exact h.elim
  | dF _=>exact h.elim
  | dG _=>exact h.elim
  | xc _ _=>exact h.elim
def Co:V->List V->Hp->VK->Prop:=λx vs H Q=>∃l xs i y,x=.ref l/\vs=[.int i,y]/\H l=some (.lst xs)/\xs.length<sizeLine/\0<=i/\i<=xs.length/\Q .ba (bH H l (.lst (xs.take i.toNat++y::xs.drop i.toNat)))
theorem vO:BQ X "list.insert" Co:=by
 intro pins s σ H x vs v us Q I rx rv h;obtain⟨l,xs,i,y,rfl,rfl,hH,hz,h0,h1,q⟩:=h;cases rx;obtain⟨u,w,rfl,ru,qY⟩:=rv.two;obtain⟨t,rfl⟩:=ru;obtain⟨z,ar,n,r,hl,e⟩:=I.vn hH;have hs:sizeLine=16777216:=sizeLine_eq;refine jf F.slot_list_insert ⟨_,e,rfl⟩ F.entry_list_insert (F.args_list_insert_3 _ _ _) (AutoSeq1.list_insert_list_int_val_1 l ar.toArray n i t w ?_ (by rw[cB];omega)) ⟨e,?_⟩
 ·simp only[Builtin.List.listFitsIndex,gX,Bool.not_eq_false];have:(i:Int)<=16777216:=∅;simp;omega
 ·refine⟨.ba,_,I.HQ (its':=ar.take i.toNat++w::ar.drop i.toNat) hH e ?_ ((r.take _).append (.cons qY (r.drop _))) ?_,rfl,q⟩
  ·dsimp only;rw[aT ∅];have hk:min i.toNat ar.toArray.size=i.toNat:=by rw[cB];omega
   rw[hk];apply Array.ext';simp only[Array.toList_append,Array.toList_push,Array.toList_extract,List.extract_eq_take_drop,cB,List.drop_zero,Nat.sub_zero];rw[List.take_of_length_le (l:=List.drop i.toNat ar) (by simp)];simp
  ·simp;omega
theorem mJ:BQ X "list.insert" (Po X.K .insert):=by
 intro pins s σ H x vs v us Q I rx rv h;obtain⟨ads,M,wx,ds,m,r1,r2,h⟩:=h;rcases wx with⟨_|_|_|_|_ | n⟩|_<;>first | exact h.elim | skip
 have r1:RD X.K ads H (.aB n) x:=r1;unfold RD at r1;obtain⟨a,rfl,ea⟩:=r1;unfold oJ at h;dsimp only at h
 cases q:M[n]? with
 | none=>rw[q]at h;exact h.elim
 | some o =>
  rw[q]at h
  cases o with
  | lst es =>
   rcases ds with _|⟨d,_|⟨d2,_|⟨d3,ds⟩⟩⟩
   ·exact h.elim
   ·rcases d with _|_|_|_|_|_<;>exact h.elim
   ·rcases d with _|_ | i | _|_|_<;>first | exact h.elim | skip
    dsimp only at h;split at h
    ·rename_i hz
     obtain⟨vi,y,rfl,ri,ry⟩:=r2.Ue;unfold RD at ri;subst ri;obtain⟨xs,ha,rd⟩:=m.obj n _ a q ea;refine vO pins s σ H _ _ v us Q I rx rv ⟨a,xs,i,y,rfl,rfl,ha,by rw[<- rd.len];exact hz.1,hz.2.1,by rw[<- rd.len];exact hz.2.2,bz.wrote h m q ea ⟨xs,ha⟩ ((rd.take _).app ?_) hG⟩;show aH X.K ads H (d2::es.drop i.toNat) (y::xs.drop i.toNat);unfold aH;exact⟨y,_,rfl,ry,rd.drop _⟩
    ·exact h.elim
   ·rcases d with _|_ | i | _|_|_<;>exact h.elim
  | i9 _=>exact h.elim
  | dK _=>exact h.elim
  | dT _=>exact h.elim
  | dF _=>exact h.elim
  | dG _=>exact h.elim
  | xc _ _=>exact h.elim
def iG(o i:W)(d:D)(M:af):bE Unit :=
 match o with
 | .d (.aB n)=>match M[n]? with
  | some (.lst ds)=>match i with
   | .d (.int k)=>match yx ds.length k with
    | some j=>.ok () (M.set n (.lst (ds.set j d)))
    | none=>.aa
   | _=>.aa
  | some (.dK ao)=>match i with
   | .d (.str k)=>if ao.length<sizeLine then .ok () (M.set n (.dK (pM ao (Sum.inr k) d))) else .aa
   | .d (.int k)=>if ao.length<sizeLine then .ok () (M.set n (.dK (pM ao (Sum.inl k) d))) else .aa
   | _=>.aa
  | _=>.aa
 | _=>.aa
def Wv(K:PySem.W.Frag)(ads:List Addr)(H:Hp)(Q:Hp->Prop):bE Unit->Prop
 | .ok _ M=>∀H' aq,ay ads aq H H'->aM K aq H' M->Q H'
 | .err x M=>EX.post K ads H x M
 | .aa=>False
def Ug(K:PySem.W.Frag):Bv:=λo i v H Q=>∃ads M wo wi d,aM K ads H M/\RW K ads H wo o/\RW K ads H wi i/\RD K ads H d v/\Wv K ads H Q (iG wo wi d M)
theorem IL(hu:X.A.units+1<cLine):Hj X (Ug X.K):=by
 intro pins s σ H o i v ov iv u Q I ro ri rv h;obtain⟨ads,M,wo,wi,d,m,r1,r2,r3,h⟩:=h;rcases wo with⟨_|_|_|_|_ | n⟩|_<;>first | exact h.elim | skip
 have r1:RD X.K ads H (.aB n) o:=r1;unfold RD at r1;obtain⟨a,rfl,ea⟩:=r1;unfold iG at h;dsimp only at h
 cases q:M[n]? with
 | none=>rw[q]at h;exact h.elim
 | some ob =>
  rw[q]at h;have Ie:a∈ads:=cT ea
  cases ob with
  | lst ds =>
   rcases wi with⟨_|_ | k | _|_|_⟩|_<;>first | exact h.elim | skip
   have ei:=aY r2;subst ei;dsimp only at h
   cases q2:yx ds.length k with
   | none=>rw[q2]at h;exact h.elim
   | some j =>
    rw[q2]at h;obtain⟨xs,ha,rd⟩:=m.obj n _ a q ea;refine yA pins s σ H _ _ v ov iv u Q I ro ri rv ⟨a,xs,k,j,rfl,rfl,ha,by rw[<- rd.len];exact q2,?_⟩;have nf:∀o x,H a≠some (.fP o x):=λo x z=>by rw[ha]at z;cases z
    have hg:ay ads ads H (bH H a (.lst (xs.set j v))):=⟨⟨[],by simp⟩,λb h n=>absurd h n,λb x nb h=>by rw[ax (by intro z;subst z;exact nb Ie)];exact h,λb xs h=>by
     rw[ax (λz=>by subst z;rw[ha]at h;cases h)];exact h,λb o u h=>by rw[ax (λz=>by subst z;exact nf _ _ h)];exact h⟩
    obtain⟨g',m'⟩:=m.write (o:=.lst (ds.set j d)) (ho:=.lst (xs.set j v)) q ea nf ⟨_,bW,hg.l9 _ _ (rd.setAt j r3)⟩;exact h _ ads hg m'
  | dK ao =>
   obtain⟨ks,ha,rk⟩:=m.obj n _ a q ea;have nf:∀o x,H a≠some (.fP o x):=λo x z=>by rw[ha]at z;cases z
   have put:∀(k:bZ),i=kV k->ao.length<sizeLine->Wv X.K ads H Q (.ok () (M.set n (.dK (pM ao k d))))->wpAny (model X.prog X.w) X.A (setItem ov iv u) (λ_ s'=>∃H',Inv X pins σ H' s'/\Q H') X.xe s:=by
    intro k ek hz h;subst ek;cases ro;refine vk hu I (vj.k (k:=k) ha (by rw[<- rk.len];exact hz)) ri rv λs' I'=>⟨_,I',?_⟩
    have hg:ay ads ads H (bH H a (.dK (eL ks k v))):=⟨⟨[],by simp⟩,λb h n=>absurd h n,λb x nb h=>by rw[ax (by intro z;subst z;exact nb Ie)];exact h,λb xs h=>by
     rw[ax (λz=>by subst z;rw[ha]at h;cases h)];exact h,λb o u h=>by rw[ax (λz=>by subst z;exact nf _ _ h)];exact h⟩
    obtain⟨g',m'⟩:=m.write (o:=.dK (pM ao k d)) (ho:=.dK (eL ks k v)) q ea nf ⟨_,bW,hg.yS _ _ (rk.put r3)⟩;exact h _ ads hg m'
   rcases wi with⟨_|_ | k | k | _|_⟩|_<;>first | exact h.elim | skip
   ·have ei:=aY r2;subst ei;dsimp only at h;split at h
    ·rename_i hz
     exact put (Sum.inl k) rfl hz h
    ·exact h.elim
   ·have ei:=bT r2;subst ei;dsimp only at h;split at h
    ·rename_i hz
     exact put (Sum.inr k) rfl hz h
    ·exact h.elim
  | i9 _=>exact h.elim
  | dT _=>exact h.elim
  | dF _=>exact h.elim
  | dG _=>exact h.elim
  | xc _ _=>exact h.elim
end
end
section
variable [EX]
structure XI where
 cl:List (Str×Addr×List Str)
 kt:List (IX×Addr×Bool)
 ct:List (Str×Addr×List Str)
 hs:List Nat
 fa:List (Str×Addr)
 gt:List (Str×Str)
 tb:List (Str×rA):=[]
abbrev IM:XI:=⟨[],[],[],[],[],[],[]⟩
structure CC where
 N:List Str
 names:List (Str×NameKind)
 fs:List (Str×Nat)
 gs:List (Str×Int)
 xs:XI
noncomputable def Cp(cc:CC)(x:Str):Bool:=match cc.names.lookup x with
 | some .local=>true
 | some .cell=>true
 | some .free=>true
 | _=>false
noncomputable def glob(cc:CC)(x:Str):Bool:=match cc.names.lookup x with
 | some .globalImplicit=>true
 | _=>false
noncomputable def bt(x:Str):Bool:=!(x==("__debug__" : Str)) && !(x==("__classdict__" : Str)) && !(x==("__name__" : Str))
theorem bN{p:Prop}[d:Decidable p]{f:p->Bool}(h:(if h:p then f h else false)=true):p:=by
 cases d with
 | isTrue q=>exact q
 | isFalse q=>rw[dif_neg q]at h;exact absurd h aI
noncomputable def ft(e:Expr)(f:BoolOp->List Expr->Pos->Bool):Bool:=if h:e.ctorIdx=0 then Expr.BoolOp.elim (motive_1:=λ_=>Bool) e h f else false
theorem eP{P:Expr->Prop}{e:Expr}{f:BoolOp->List Expr->Pos->Bool}(h:ft e f=true)(k:∀a b c,f a b c=true->P (.BoolOp a b c)):P e :=
 Expr.BoolOp.elim (motive_1:=λe=>ft e f=true->P e) e (bN h) (λa b c h=>k a b c h) h
noncomputable def j3(e:Expr)(f:Expr->Operator->Expr->Pos->Bool):Bool:=if h:e.ctorIdx=2 then Expr.BinOp.elim (motive_1:=λ_=>Bool) e h f else false
theorem k7{P:Expr->Prop}{e:Expr}{f:Expr->Operator->Expr->Pos->Bool}(h:j3 e f=true)(k:∀a b c d,f a b c d=true->P (.BinOp a b c d)):P e :=
 Expr.BinOp.elim (motive_1:=λe=>j3 e f=true->P e) e (bN h) (λa b c d h=>k a b c d h) h
noncomputable def fu(e:Expr)(f:UnaryOp->Expr->Pos->Bool):Bool:=if h:e.ctorIdx=3 then Expr.UnaryOp.elim (motive_1:=λ_=>Bool) e h f else false
theorem d7{P:Expr->Prop}{e:Expr}{f:UnaryOp->Expr->Pos->Bool}(h:fu e f=true)(k:∀a b c,f a b c=true->P (.UnaryOp a b c)):P e :=
 Expr.UnaryOp.elim (motive_1:=λe=>fu e f=true->P e) e (bN h) (λa b c h=>k a b c h) h
noncomputable def nU(e:Expr)(f:Expr->Expr->Expr->Pos->Bool):Bool:=if h:e.ctorIdx=5 then Expr.IfExp.elim (motive_1:=λ_=>Bool) e h f else false
theorem rH{P:Expr->Prop}{e:Expr}{f:Expr->Expr->Expr->Pos->Bool}(h:nU e f=true)(k:∀a b c d,f a b c d=true->P (.IfExp a b c d)):P e :=
 Expr.IfExp.elim (motive_1:=λe=>nU e f=true->P e) e (bN h) (λa b c d h=>k a b c d h) h
noncomputable def rJ(e:Expr)(f:List (Option Expr)->List Expr->Pos->Bool):Bool:=if h:e.ctorIdx=6 then Expr.Dict.elim (motive_1:=λ_=>Bool) e h f else false
theorem vP{P:Expr->Prop}{e:Expr}{f:List (Option Expr)->List Expr->Pos->Bool}(h:rJ e f=true)(k:∀a b c,f a b c=true->P (.Dict a b c)):P e :=
 Expr.Dict.elim (motive_1:=λe=>rJ e f=true->P e) e (bN h) (λa b c h=>k a b c h) h
noncomputable def fD(e:Expr)(f:Expr->List Comprehension->Scope->Pos->Bool):Bool:=if h:e.ctorIdx=8 then Expr.ListComp.elim (motive_1:=λ_=>Bool) e h f else false
theorem gS{P:Expr->Prop}{e:Expr}{f:Expr->List Comprehension->Scope->Pos->Bool}(h:fD e f=true)(k:∀a b c d,f a b c d=true->P (.ListComp a b c d)):P e :=
 Expr.ListComp.elim (motive_1:=λe=>fD e f=true->P e) e (bN h) (λa b c d h=>k a b c d h) h
noncomputable def gA(e:Expr)(f:Expr->List CmpOp->List Expr->Pos->Bool):Bool:=if h:e.ctorIdx=15 then Expr.Compare.elim (motive_1:=λ_=>Bool) e h f else false
theorem iH{P:Expr->Prop}{e:Expr}{f:Expr->List CmpOp->List Expr->Pos->Bool}(h:gA e f=true)(k:∀a b c d,f a b c d=true->P (.Compare a b c d)):P e :=
 Expr.Compare.elim (motive_1:=λe=>gA e f=true->P e) e (bN h) (λa b c d h=>k a b c d h) h
noncomputable def dW(e:Expr)(f:Expr->List Expr->List Keyword->Pos->Bool):Bool:=if h:e.ctorIdx=16 then Expr.Call.elim (motive_1:=λ_=>Bool) e h f else false
theorem cK{P:Expr->Prop}{e:Expr}{f:Expr->List Expr->List Keyword->Pos->Bool}(h:dW e f=true)(k:∀a b c d,f a b c d=true->P (.Call a b c d)):P e :=
 Expr.Call.elim (motive_1:=λe=>dW e f=true->P e) e (bN h) (λa b c d h=>k a b c d h) h
noncomputable def dt(e:Expr)(f:Const->Nat->Pos->Bool):Bool:=if h:e.ctorIdx=19 then Expr.Constant.elim (motive_1:=λ_=>Bool) e h f else false
theorem cu{P:Expr->Prop}{e:Expr}{f:Const->Nat->Pos->Bool}(h:dt e f=true)(k:∀a b c,f a b c=true->P (.Constant a b c)):P e :=
 Expr.Constant.elim (motive_1:=λe=>dt e f=true->P e) e (bN h) (λa b c h=>k a b c h) h
noncomputable def k9(e:Expr)(f:List Expr->Pos->Bool):Bool:=if h:e.ctorIdx=18 then Expr.JoinedStr.elim (motive_1:=λ_=>Bool) e h f else false
theorem pU{P:Expr->Prop}{e:Expr}{f:List Expr->Pos->Bool}(h:k9 e f=true)(k:∀a b,f a b=true->P (.JoinedStr a b)):P e :=
 Expr.JoinedStr.elim (motive_1:=λe=>k9 e f=true->P e) e (bN h) (λa b h=>k a b h) h
noncomputable def tF(e:Expr)(f:Expr->Int->Option Expr->Pos->Bool):Bool:=if h:e.ctorIdx=17 then Expr.FormattedValue.elim (motive_1:=λ_=>Bool) e h f else false
theorem pV{P:Expr->Prop}{e:Expr}{f:Expr->Int->Option Expr->Pos->Bool}(h:tF e f=true)(k:∀a b c d,f a b c d=true->P (.FormattedValue a b c d)):P e :=
 Expr.FormattedValue.elim (motive_1:=λe=>tF e f=true->P e) e (bN h) (λa b c d h=>k a b c d h) h
noncomputable def dO(e:Expr)(f:Expr->Str->Pos->Bool):Bool:=if h:e.ctorIdx=20 then Expr.Attribute.elim (motive_1:=λ_=>Bool) e h f else false
theorem eB{P:Expr->Prop}{e:Expr}{f:Expr->Str->Pos->Bool}(h:dO e f=true)(k:∀a b c,f a b c=true->P (.Attribute a b c)):P e :=
 Expr.Attribute.elim (motive_1:=λe=>dO e f=true->P e) e (bN h) (λa b c h=>k a b c h) h
noncomputable def cW(e:Expr)(f:Expr->Expr->Pos->Bool):Bool:=if h:e.ctorIdx=21 then Expr.Subscript.elim (motive_1:=λ_=>Bool) e h f else false
theorem df{P:Expr->Prop}{e:Expr}{f:Expr->Expr->Pos->Bool}(h:cW e f=true)(k:∀a b c,f a b c=true->P (.Subscript a b c)):P e :=
 Expr.Subscript.elim (motive_1:=λe=>cW e f=true->P e) e (bN h) (λa b c h=>k a b c h) h
noncomputable def cC(e:Expr)(f:Str->Pos->Bool):Bool:=if h:e.ctorIdx=23 then Expr.Name.elim (motive_1:=λ_=>Bool) e h f else false
theorem bu{P:Expr->Prop}{e:Expr}{f:Str->Pos->Bool}(h:cC e f=true)(k:∀a b,f a b=true->P (.Name a b)):P e :=
 Expr.Name.elim (motive_1:=λe=>cC e f=true->P e) e (bN h) (λa b h=>k a b h) h
noncomputable def rK(e:Expr)(f:List Expr->Pos->Bool):Bool:=if h:e.ctorIdx=24 then Expr.List.elim (motive_1:=λ_=>Bool) e h f else false
theorem vQ{P:Expr->Prop}{e:Expr}{f:List Expr->Pos->Bool}(h:rK e f=true)(k:∀a b,f a b=true->P (.List a b)):P e :=
 Expr.List.elim (motive_1:=λe=>rK e f=true->P e) e (bN h) (λa b h=>k a b h) h
noncomputable def j4(e:Expr)(f:List Expr->Nat->Pos->Bool):Bool:=if h:e.ctorIdx=25 then Expr.Tuple.elim (motive_1:=λ_=>Bool) e h f else false
theorem hU{P:Expr->Prop}{e:Expr}{f:List Expr->Nat->Pos->Bool}(h:j4 e f=true)(k:∀a b c,f a b c=true->P (.Tuple a b c)):P e :=
 Expr.Tuple.elim (motive_1:=λe=>j4 e f=true->P e) e (bN h) (λa b c h=>k a b c h) h
noncomputable def nV(e:Expr)(f:Option Expr->Option Expr->Option Expr->Pos->Bool):Bool:=if h:e.ctorIdx=26 then Expr.Slice.elim (motive_1:=λ_=>Bool) e h f else false
theorem rL{P:Expr->Prop}{e:Expr}{f:Option Expr->Option Expr->Option Expr->Pos->Bool}(h:nV e f=true)(k:∀a b c d,f a b c d=true->P (.Slice a b c d)):P e :=
 Expr.Slice.elim (motive_1:=λe=>nV e f=true->P e) e (bN h) (λa b c d h=>k a b c d h) h
noncomputable def gh(e:Stmt)(f:Option Expr->Pos->Bool):Bool:=if h:e.ctorIdx=3 then Stmt.Return.elim (motive_2:=λ_=>Bool) e h f else false
theorem jL{P:Stmt->Prop}{e:Stmt}{f:Option Expr->Pos->Bool}(h:gh e f=true)(k:∀a b,f a b=true->P (.Return a b)):P e :=
 Stmt.Return.elim (motive_2:=λe=>gh e f=true->P e) e (bN h) (λa b h=>k a b h) h
noncomputable def gk(e:Stmt)(f:List Expr->Expr->Pos->Bool):Bool:=if h:e.ctorIdx=5 then Stmt.Assign.elim (motive_2:=λ_=>Bool) e h f else false
theorem gm{P:Stmt->Prop}{e:Stmt}{f:List Expr->Expr->Pos->Bool}(h:gk e f=true)(k:∀a b c,f a b c=true->P (.Assign a b c)):P e :=
 Stmt.Assign.elim (motive_2:=λe=>gk e f=true->P e) e (bN h) (λa b c h=>k a b c h) h
noncomputable def za(e:Stmt)(f:Expr->Expr->List Stmt->List Stmt->Pos->Bool):Bool:=if h:e.ctorIdx=9 then Stmt.For.elim (motive_2:=λ_=>Bool) e h f else false
theorem zb{P:Stmt->Prop}{e:Stmt}{f:Expr->Expr->List Stmt->List Stmt->Pos->Bool}(h:za e f=true)(k:∀a b c d e,f a b c d e=true->P (.For a b c d e)):P e :=
 Stmt.For.elim (motive_2:=λe=>za e f=true->P e) e (bN h) (λa b c d e h=>k a b c d e h) h
noncomputable def IP(e:Stmt)(f:Expr->List Stmt->List Stmt->Pos->Bool):Bool:=if h:e.ctorIdx=12 then Stmt.If.elim (motive_2:=λ_=>Bool) e h f else false
theorem Cq{P:Stmt->Prop}{e:Stmt}{f:Expr->List Stmt->List Stmt->Pos->Bool}(h:IP e f=true)(k:∀a b c d,f a b c d=true->P (.If a b c d)):P e :=
 Stmt.If.elim (motive_2:=λe=>IP e f=true->P e) e (bN h) (λa b c d h=>k a b c d h) h
noncomputable def k_(e:Stmt)(f:Expr->Pos->Bool):Bool:=if h:e.ctorIdx=24 then Stmt.Expr.elim (motive_2:=λ_=>Bool) e h f else false
theorem mK{P:Stmt->Prop}{e:Stmt}{f:Expr->Pos->Bool}(h:k_ e f=true)(k:∀a b,f a b=true->P (.Expr a b)):P e :=
 Stmt.Expr.elim (motive_2:=λe=>k_ e f=true->P e) e (bN h) (λa b h=>k a b h) h
noncomputable def Cr:Const->Bool
 | .none=>true
 | _=>false
def isNone(e:Expr):Bool:=dt e λc _ _=>Cr c
noncomputable def tH:BoolOp->Bool
 | .And=>true
 | .Or=>false
noncomputable def IQ:UnaryOp->Bool
 | .USub=>true
 | _=>false
noncomputable def FN:UnaryOp->Bool
 | .Not=>true
 | _=>false
noncomputable def gB(e:Expr):Bool:=!Nat.beq e.ctorIdx 26
noncomputable def gC(e:Expr):Bool:=[23,16,21,24,25,19,2].contains e.ctorIdx
def eC(e:Expr):Bool:=!(dW e λf as ks _=>Nat.beq f.ctorIdx 23&&as.isEmpty&&ks.isEmpty)
noncomputable def az(e:Expr):Bool:=!Nat.beq e.ctorIdx 22
noncomputable def zc:Bi->Str
 | .len => "len" | .max2 => "max" | .min2 => "min" | .kK => "int" | .list1 => "list" | .tuple1 => "tuple" | .s_ => "repr" | .i_ _ => "isinstance" | .all1 => "all" | .B6 => "any" | .tf => "dict" | .min1 => "min" | .B7 => "max" | .tj => "sorted" | .str1 => "str"
noncomputable def zd:Me->Str
 | .append => "append" | .insert => "insert" | .reverse => "reverse" | .extend => "extend" | .remove => "remove" | .clear => "clear" | .pop => "pop"
noncomputable def cD:List Str:=["len","max","min","int","list","tuple","repr","isinstance","all","any","bool","str","dict","range","enumerate","zip","sorted","set","reversed"]
noncomputable def Pq:Me->Bool
 | .append=>true | .insert=>true | .reverse=>false | .extend=>false | .remove=>false | .clear=>true | .pop=>false
noncomputable def Pr:Bi->Bool
 | .B6=>false
 | .min1=>false
 | .B7=>false
 | .min2=>false
 | .max2=>false
 | .tf=>false
 | .s_=>false
 | .tj=>false
 | .i_ _=>false
 | _=>true
noncomputable def isStr(k:Str):Const->Bool
 | .str s=>k==s
 | _=>false
def iI:List Str->List (Option Expr)->Bool
 | [],[]=>true
 | k::ks,some e::es=>(dt e λc _ _=>isStr k c)&&iI ks es
 | _,_=>false
noncomputable def dX(sc:Scope):List Str:=(sc.names.filter λy=>y.2 == .local||y.2 == .free||y.2 == .cell).map (·.1)
def lb(cc:CC)(sc:Scope):List (Option Nat):=(dX sc).map λx=>if sc.names.lookup x==some .free then cc.N.findIdx? (· == x) else none
def mL(cc:CC)(sc:Scope):CC:=⟨dX sc,sc.names,cc.fs,cc.gs,⟨[],[],[],[],cc.xs.fa,cc.xs.gt,cc.xs.tb⟩⟩
def pW(cc:CC)(sc:Scope):Bool:=sc.kind == .function&&sc.names.all (λy=>y.2 != .cell||sc.names.lookup y.1==some .cell)&&sc.names.all (λy=>y.2 != .local||sc.names.lookup y.1==some .local)&&decide (dX sc).Nodup &&
 sc.names.all (λy=>y.2 != .free||(sc.names.lookup y.1==some .free&&(cc.names.lookup y.1==some .cell||cc.names.lookup y.1==some .free)))
def iJ(cc:CC):List Nat->List Expr->Bool
 | [],[]=>true
 | i::tg,e::es=>(cC e λx _=>cc.N[i]? == some x&&(cc.names.lookup x==some .local||cc.names.lookup x==some .cell))&&iJ cc tg es
 | _,_=>false
def gT(cc:CC)(tg:List Nat)(e:Expr):Bool:=match tg with
 | []=>false
 | [i]=>iJ cc [i] [e]
 | i::j::r=>j4 e λes _ _=>iJ cc (i::j::r) es&&decide ((i::j::r).length<20)
noncomputable def j5(e:Expr):Bool:=Nat.beq e.ctorIdx 25
noncomputable def dY(e:Expr):Bool:=!Nat.beq e.ctorIdx 7
noncomputable def Uh:D->Const->Bool
 | .int i,.int j=>i==j
 | .bl i,.bool j=>i==j
 | .str i,.str j=>i==j
 | .ba,.none=>true
 | _,_=>false
noncomputable def IS:D->Const->Bool
 | .int i,.int j=>i == -j
 | _,_=>false
def hZ(d:D)(e:Expr):Bool:=(dt e λc _ _=>Uh d c)||fu e λop x _=>IQ op&&dt x λc _ _=>IS d c
noncomputable def ze:Bi->Option Ty
 | .i_ t=>some t
 | _=>none
theorem rM{b:Bi}{t:Ty}(h:ze b=some t):b=.i_ t:=by
 cases b<;>first | (cases h;rfl) | cases h
noncomputable def Ui(cc:CC)(n:Nat)(p:Addr×Nat):Bool:=match cc.fs[p.2]? with
 | some (y,k)=>k==n&&cc.xs.fa.contains (y,p.1)
 | none=>false
mutual
noncomputable def bB(cc:CC):C->Expr->Bool
 | .eZ i,e=>cC e λx _=>cc.N[i]? == some x&&Cp cc x&&bt x
 | .a8 d,e=>hZ d e
 | .bin op a b,e=>j3 e λl o r _=>o==Ch op&&bB cc a l&&bB cc b r
 | .cmp op a b,e=>gA e λl os rs _=>match os,rs with
  | [o],[r]=>o==IB op && !behindInMarks o r&&(if op=.isN\/op=.notN then isNone r else true)&&bB cc a l&&bB cc b r
  | _,_=>false
 | .chain o1 o2 a b c,e=>gA e λl os rs _=>match os,rs with
  | [p,q],[m,r]=>p==IB o1&&q==IB o2 && !lastMarks [p,q] [m,r] && !(decide (o1=.isN)||decide (o1=.notN)||decide (o2=.isN)||decide (o2=.notN))&&bB cc a l&&bB cc b m&&bB cc c r
  | _,_=>false
 | .dS cs,e=>ft e λop es _=>tH op&&bU cc cs es && !es.isEmpty
 | .dJ cs,e=>ft e λop es _=>!tH op&&bU cc cs es && !es.isEmpty
 | .neg a,e=>fu e λop x _=>FN op&&bB cc a x
 | .ite t a b,e=>nU e λc x y _=>jw cc t c&&bB cc a x&&bB cc b y
 | .tup cs,e=>j4 e λes _ _=>bU cc cs es
 | .lst cs,e=>rK e λes _=>bU cc cs es
 | .sub a b,e=>cW e λe i _=>gB i&&bB cc a e&&bB cc b i
 | .pG a lo hi,e=>cW e λe i _=>nV i λl h st _=>st.isNone&&bB cc a e&&IT cc lo l&&IT cc hi h
 | .call f cs,e=>dW e λfe args eD _=>cC fe λx _=>match args,eD with
  | e::es,[]=>cc.fs[f]? == some (x,cs.length)&&glob cc x&&bt x&&bU cc cs (e::es)
  | _,_=>false
 | .xf a f,e=>false
 | .B9 a k tb,e=>false
 | .jG f cs,e=>false
 | .bi b cs,e=>dW e λfe args eD _=>cC fe λx _=>eD.isEmpty&&x==zc b&&glob cc x&&match ze b,args with
  | some t,[e,f]=>(cC f λy _=>y==Str.ofString (pS t)&&glob cc y&&decide (t≠.none))&&bU cc cs [e]
  | none,e::es=>Pr b&&bU cc cs (e::es)
  | _,_=>false
 | .me m o cs,e=>dW e λfe es eD cp=>dO fe λe n ap=>eD.isEmpty&&n==zd m&&Pq m&&ap.endLine==cp.line&&eC e&&bB cc o e&&bU cc cs es&&decide (es.length<20)
 | .wg ks cs,e=>rJ e λkeys vs _=>(iI ks keys&&decide ks.Nodup && !keys.isEmpty&&decide (keys.length<=15)&&bU cc cs vs&&decide (ks.length=cs.length))||(ks.isEmpty&&cs.isEmpty&&keys.isEmpty&&vs.isEmpty)
 | .iZ tp cs,e=>false
 | .vF x v,e=>cC e λy _=>y==x&&glob cc x&&bt x&&cc.gs.lookup x==some v
 | .l_ ng a,e=>false
 | .rB x v,e=>cC e λy _=>y==x&&glob cc x&&bt x&&cc.xs.gt.contains (x,v)
 | .pH pt a b,e=>dW e λfe args eD cp=>dO fe λe n ap=>match args,eD with
  | [x],[]=>n==(if pt=true then ("partition" : Str) else "split")&&ap.endLine==cp.line&&eC e&&az x&&bB cc a e&&bB cc b x
  | _,_=>false
 | .wj lit a b,e=>k9 e λvs _=>match vs with
  | [v1,v2,v3]=>tF v1 λe1 c1 s1 _=>tF v3 λe3 c3 s3 _=>c1 == -1&&s1.isNone&&c3 == -1&&s3.isNone&&hZ (.str lit) v2&&bB cc a e1&&bB cc b e3
  | _=>false
 | .cat a b,e=>j3 e λl o r _=>o == .Add&&bB cc a l&&bB cc b r
 | .iA x tt b,e=>cW e λe i _=>gB i&&(cC e λy _=>y==x&&glob cc x&&bt x)&&cc.xs.tb.contains (x,tt)&&bB cc b i
 | .vG cS a,e=>dW e λfe args eD cp=>dO fe λo n ap=>match args,eD with
  | [x],[]=>n == "join" && (ap.endLine==cp.line)&&eC o&&hZ (.str cS) o&&az x&&bB cc a x
  | _,_=>false
 | .vH y a,e=>cC e λx _=>x==y&&glob cc x&&bt x&&cc.xs.fa.contains (y,a)
 | .dM i tb cs,e=>dW e λfe args eD _=>cC fe λx _=>match args,eD with
  | e::es,[]=>cc.N[i]? == some x&&Cp cc x&&bt x&&bU cc cs (e::es)&&tb.all (Ui cc cs.length)
  | _,_=>false
 | .comp k cU tg cond elt cx,e=>fD e λel gens sc _=>match gens with
  | [⟨t,aD,ifs,as⟩]=>as==0&&pW cc sc&&decide (cx=lb cc sc)&&nW cc k cU t aD&&gT (mL cc sc) tg t&&Cs (mL cc sc) cond ifs&&bB (mL cc sc) elt el
  | _=>false
noncomputable def Cs(cc:CC):Option dU->List Expr->Bool
 | none,[]=>true
 | some t,[e]=>jw cc t e
 | _,_=>false
noncomputable def nW(cc:CC):SK->List C->Expr->Expr->Bool
 | .seq,[c],_,e=>dY e&&bB cc c e
 | .rng1,[c],_,e=>dW e λfe args eD _=>cC fe λx _=>match args,eD with
  | [a],[]=>x == "range" && glob cc x&&az a&&bB cc c a
  | _,_=>false
 | .rng2,[c,d],_,e=>dW e λfe args eD _=>cC fe λx _=>match args,eD with
  | [a,b],[]=>x == "range" && glob cc x&&az a&&az b&&bB cc c a&&bB cc d b
  | _,_=>false
 | .zip,[c,d],t,e=>dW e λfe args eD _=>cC fe λx _=>match args,eD with
  | [a,b],[]=>x == "zip" && glob cc x&&az a&&az b&&bB cc c a&&bB cc d b
  | _,_=>false
 | _,_,_,_=>false
noncomputable def jw(cc:CC):dU->Expr->Bool
 | .dS ts,e=>ft e λop es _=>tH op&&lg cc ts es && !es.isEmpty
 | .dJ ts,e=>ft e λop es _=>!tH op&&lg cc ts es && !es.isEmpty
 | .neg a,e=>fu e λop x _=>FN op&&jw cc a x
 | .val (.cmp op a b),e=>bB cc (.cmp op a b) e
 | .val (.chain o1 o2 a b c),e=>bB cc (.chain o1 o2 a b c) e
 | .val (.l_ ng a),e=>bB cc (.l_ ng a) e
 | .val c,e=>gC e&&bB cc c e
noncomputable def lg(cc:CC):List dU->List Expr->Bool
 | [],[]=>true
 | c::cs,e::es=>jw cc c e&&lg cc cs es
 | _,_=>false
noncomputable def bU(cc:CC):List C->List Expr->Bool
 | [],[]=>true
 | c::cs,e::es=>az e&&bB cc c e&&bU cc cs es
 | _,_=>false
noncomputable def IT(cc:CC):Option C->Option Expr->Bool
 | none,none=>true
 | some c,some e=>bB cc c e
 | _,_=>false
end
end
noncomputable def IU(X:Cx)(x:Str):NameKind->Prop
 | .local=>X.env.kindOf x=some .local
 | .cell=>X.env.kindOf x=some .cell
 | .free=>X.env.kindOf x=some .cell\/X.env.kindOf x=some .free
 | .globalImplicit=>X.env.kindOf x=some .globalImplicit
 | _=>True
def wk(K:PySem.W.Frag)(n:Nat)(F:List D->af->bE W):Sp:=λvs H Q E=>∃ads M ds,aM K ads H M/\aH K ads H ds vs/\ds.length=n/\@bz (B5 E) K ads H Q (F ds M)
noncomputable def FO(K:PySem.W.Frag)(mg:Str->Option Value)(k:IX)(C:Addr)(r:Bool):Prop:=match k with
 | .one x=>∃c,mg x=some (.ref c)/\PySem.W.kitOne K (.ref C) (.ref c)=some r
 | .ve=>mg "ValueError" = none/\PySem.W.kitOne K (.ref C) (.type "ValueError")=some r
 | .many xs=>∃cs:List Addr,xs.map mg=cs.map (λc=>some (.ref c))/\PySem.W.kitAny K (.ref C) (cs.map Value.ref)=some r
def FP(K:PySem.W.Frag)(mg:Str->Option Value)(cb:Str)(C:Addr)(fs:List Str):Prop:=∃B D fI,mg cb=some (.ref B)/\PySem.W.kitCls K (.ref C) (.ref B)=some true/\PySem.W.kitCls K (.ref B) (.type "BaseException")=some true/\Ry K C D fI fs
def tJ(P:Program)(w:World)(K:PySem.W.Frag)(mg:Str->Option Value)(x:Str)(tb:rA):Prop:=∃a vs,mg x=some (.ref a)/\(a==sysModules)=false/\(∀h:Heap,K.In h->h.DictOf (bG P w) a vs) /\
 ∀k:Str,match tb.lookup k with
  | none=>valueAt vs (.inr k)=none
  | some p=>∃u v,valueAt vs (.inr k)=some u/\RelV v u/\∀ads H,RD K ads H (RA p) v
structure eE (kk:Nat) (X:Cx) (cc:CC) (G:bo):Prop where
 rh:Fz kk X.A
 N:X.N=cc.N
 nd:cc.N.Nodup
 kinds:∀x k,cc.names.lookup x=some k->IU X x k
 Ww:∀x,cc.names.lookup x=some .cell->X.fn x=true
 blt:∀b∈cD,X.mg b=none
 Uj:∀(x:Str)(v:Int),cc.gs.lookup x=some v->∃t,X.mg x=some (.int v t)
 Yz:∀k C r,(k,C,r)∈cc.xs.kt->FO X.K X.mg k C r
 cat:∀cb C fs,(cb,C,fs)∈cc.xs.ct->FP X.K X.mg cb C fs
 RC:∀(x:Str)(a:Addr),(x,a)∈cc.xs.fa->X.mg x=some (.ref a)
 rB:∀x v:Str,(x,v)∈cc.xs.gt->∃t,X.mg x=some (.str v t)
 xN:∀(x:Str)(tb:rA),(x,tb)∈cc.xs.tb->tJ X.prog X.w X.K X.mg x tb
 Ps:∀(i:Nat)(x:Str)(n:Nat),cc.fs[i]?=some (x,n)->i∈cc.xs.hs->∃f fd ps,FA X.prog X.w X.K X.mg X.base Rp kk f fd ps (wk X.K n (G i))/\X.mg x=some (.ref f)/\PySem.W.keepIn X.K (.ref f)=true/\Binds X.K fd ps []
section
variable [EX]
structure Good (kk:Nat) (X:Cx) (cc:CC) (G:bo):Prop extends dA:eE kk X cc G where
 calm:X.calm=true
 room:gZ kk X.A
 fns:∀(i:Nat)(x:Str)(n:Nat),cc.fs[i]?=some (x,n)->∃f fd ps,fR X.prog X.w X.K X.mg X.base (vD X.prog X.w) kk f fd ps (wk X.K n (G i))/\X.mg x=some (.ref f)/\PySem.W.keepIn X.K (.ref f)=true/\Binds X.K fd ps []
 ex:∃E:XK,nD (vD X.prog X.w) X E/\∀{K:PySem.W.Frag}{ads:List Addr}{H:Hp}{x:yR}{M:af},EX.post K ads H x M->(B5 E).post K ads H x M
section
variable {kk:Nat} {X:Cx} {cc:CC} {G:bo}
theorem eE.Cp(g:eE kk X cc G){x:Str}(h:Cp cc x=true):Rf X.env.scope x:=by
 unfold Ev.Cp at h;split at h
 ·rename_i q;exact .inl (g.kinds x _ q)
 ·rename_i q;exact .inr (.inl (g.kinds x _ q))
 ·rename_i q
  rcases g.kinds x _ q with z | z
  ·exact .inr (.inl z)
  ·exact .inr (.inr z)
 ·cases h
theorem eE.gl(g:eE kk X cc G){x:Str}(h:glob cc x=true):Gl X x:=by
 unfold glob at h;split at h
 ·rename_i q;exact g.kinds x _ q
 ·cases h
theorem du{x:Str}(h:bt x=true):(x==("__debug__" : Str))=false/\(x==("__classdict__" : Str))=false/\x≠("__name__" : Str):=by
 unfold bt at h;simp only[aF,gX]at h;exact⟨h.1.1,h.1.2,λz=>by rw[z]at h;simp at h⟩
theorem eQ{e:Expr}{t u:TE}(h:PE X e t)(f:∀σ H Q,u σ H Q->t σ H Q):PE X e u:=λpins s σ H Q I q=>h pins s σ H Q I (f σ H Q q)
theorem IV{e:Expr}{t u:TT}(h:PT X e t)(f:∀σ H Q,u σ H Q->t σ H Q):PT X e u:=λpins s σ H Q I q=>h pins s σ H Q I (f σ H Q q)
theorem RE{e:Expr}{t u:TT}(h:PW X e t)(f:∀σ H Q,u σ H Q->t σ H Q):PW X e u:=λwh pins s σ H Q I q=>h wh pins s σ H Q I (f σ H Q q)
theorem RF{e:List Expr}{t u:TA}(h:PA X e t)(f:∀σ H Q,u σ H Q->t σ H Q):PA X e u:=λp pins s σ H Q I q=>h p pins s σ H Q I (f σ H Q q)
theorem bc{e:Expr}(h:az e=true)(es:List Expr)(env:Env):starEach (e::es) env=(false,eval e env)::starEach es env:=by
 cases e<;>first | rfl | exact absurd (show false=true from h) aI
theorem Pt{i:Nat}{e:Expr}(g:eE kk X cc G)(h:bB cc (.eZ i) e=true):PE X e (tE X.K (ev G (.eZ i))):=by
 refine bu (P:=λe=>PE X e _) h λx pos h=>?_;have h:(cc.N[i]? == some x&&Cp cc x&&bt x)=true:=h;simp only[aF,eT]at h;obtain⟨⟨h1,h2⟩,h3⟩:=h;obtain⟨d1,d2,_⟩:=du h3;refine eQ (Hb (i:=i) (by rw[g.N];exact h1) (g.Cp h2) d1 d2) λσ H Q q=>?_;obtain⟨ads,M,ρ,s,q⟩:=q;simp only[yV]at q;split at q
 ·rename_i d e
  obtain⟨v,Uk,r⟩:=s.en i d e;exact⟨v,Uk,q.plain s.mem r⟩
 ·exact q.elim
theorem pX{d:D}{v:V}(hd:∀ads H,RD X.K ads H d v)(σ:L2.St)(H:Hp)(Q:VK)(h:tE X.K (ev G (.a8 d)) σ H Q):tC v σ H Q:=by
 obtain⟨ads,M,ρ,s,q⟩:=h;exact bz.plain q s.mem (hd _ _)
theorem FQ{d:D}{e:Expr}(h:bB cc (.a8 d) e=true):PE X e (tE X.K (ev G (.a8 d))):=by
 replace h:hZ d e=true:=h
 rcases(wG _ _).mp h with h | h
 case inr =>
  refine d7 (P:=λe=>PE X e _) h λop x pos h=>?_
  replace h:=(aF _ _).mp h
  have h0:=h.1
  replace h:=h.2
  cases op<;>first | exact absurd (show false=true from h0) aI | skip
  refine cu (P:=λx=>PE X (.UnaryOp .USub x pos) _) h λc j p h=>?_;clear h0;rcases d with _|_ | i | _|_|_|_<;>first | exact absurd (show false=true from h) aI | skip
  rcases c with _|_ | k | _|_|_|_|_<;>first | exact absurd (show false=true from h) aI | skip
  have h:i=-k:=eq_of_beq h;subst h;exact eQ (Oc Hx xS) λσ H Q q=>⟨k,rfl,pX (λ_ _=>cQ _) σ H Q q⟩
 refine cu (P:=λe=>PE X e _) h λc j pos h=>?_
 cases d with
 | int i =>
  cases c<;>first | exact absurd (show false=true from h) aI | skip
  have h:=eq_of_beq (show(i==_)=true from h);subst h;exact eQ xS (pX λ_ _=>cQ _)
 | bl i =>
  cases c<;>first | exact absurd (show false=true from h) aI | skip
  have h:=eq_of_beq (show(i==_)=true from h);subst h;exact eQ NW (pX λ_ _=>jK _)
 | str i =>
  cases c<;>first | exact absurd (show false=true from h) aI | skip
  have h:=eq_of_beq (show(i==_)=true from h);subst h;exact eQ xT (pX λ_ _=>eA _)
 | ba =>
  cases c<;>first | exact absurd (show false=true from h) aI | skip
  exact eQ Hc (pX λ_ _=>hG)
 | tup _=>cases h
 | aB _=>cases h
 | ls _=>cases h
 | fn _=>cases h
 | tg _=>cases h
theorem Pu{op:AO}{a b:C}{e:Expr}(zf:∀e,bB cc a e=true->PE X e (tE X.K (ev G a)))(Ct:∀e,bB cc b e=true->PE X e (tE X.K (ev G b)))(h:bB cc (.bin op a b) e=true):PE X e (tE X.K (ev G (.bin op a b))):=by
 refine k7 (P:=λe=>PE X e _) h λl o r pos h=>?_;have h:(o==Ch op&&bB cc a l&&bB cc b r)=true:=h;simp only[aF,eT]at h;obtain⟨⟨rfl,h1⟩,h2⟩:=h;refine eQ (Fl (IA op) (zf l h1) (Ct r h2)) λσ H Q q=>?_;exact two (λm r1 r2 h=>⟨_,_,_,_,m,r1,r2,h⟩) q
theorem rN{K:PySem.W.Frag}{ads:List Addr}{H:Hp}{Q:VK}{o:bE Bool}(h:bz K ads H Q (o.bind λr M=>.ok (.d (.bl r)) M)):FH K ads H Q o:=by
 cases o with
 | ok b M=>exact λH' aq g m=>h (.bl b) H' aq g m (show RD K aq H' (.bl b) _ from jK _)
 | err _ _=>exact h
 | aa=>exact h
theorem zg{b:C}{e:Expr}(hn:isNone e=true)(hb:bB cc b e=true):b=.a8 .ba:=by
 revert hb;refine cu (P:=λe=>bB cc b e=true->b=.a8 .ba) hn λc j pos hn hb=>?_;cases c<;>first | cases hn | skip
 cases b<;>first | exact absurd (show false=true from hb) aI | skip
 rename_i d
 cases d<;>first | rfl | exact absurd (show false=true from hb) aI
theorem FR{op:vE}{a b:C}{e:Expr}(g:eE kk X cc G)(zf:∀e,bB cc a e=true->PE X e (tE X.K (ev G a)))(Ct:∀e,bB cc b e=true->PE X e (tE X.K (ev G b)))(h:bB cc (.cmp op a b) e=true):PE X e (tE X.K (ev G (.cmp op a b)))/\PT X e (kr (tE X.K (ev G (.cmp op a b)))):=by
 refine iH (P:=λe=>PE X e (tE X.K (ev G (.cmp op a b)))/\PT X e (kr (tE X.K (ev G (.cmp op a b))))) h λl ops rs pos h=>?_;rcases ops with _|⟨o,_|⟨o2,ops⟩⟩<;>rcases rs with _|⟨r,_|⟨r2,rs⟩⟩<;>first | exact absurd (show false=true from h) aI | skip
 have h:(o==IB op && !behindInMarks o r&&(if op=.isN\/op=.notN then isNone r else true)&&bB cc a l&&bB cc b r)=true:=h;simp only[aF,eT,gX]at h;obtain⟨⟨⟨⟨rfl,hm⟩,hn⟩,h1⟩,h2⟩:=h;have Ul:=g.rh.un
 have mE:∀σ H Q,tE X.K (ev G (.cmp op a b)) σ H Q->Lf (Cj X.K op) (tE X.K (ev G a)) (tE X.K (ev G b)) σ H Q:=by
  intro σ H Q q;by_cases Wx:op=.isN\/op=.notN
  ·rw[aG Wx]at hn;have eb:=zg hn h2;subst eb;obtain⟨ads,M,ρ,s,q⟩:=q;refine cJ s q λw M1 v H1 ag s1 kX q1=>⟨ag,M1,ρ,s1,?_⟩;intro vy H2 aX g2 m2 ry;have ey:=kZ ry;refine⟨aX,M1,w,.d .ba,m2,g2.rw kX,(show RD X.K aX H2 .ba vy by rw[ey];exact hG),λ_=>ey,?_⟩;have q1:bz X.K ag H1 Q ((bD op w (.d .ba) M1).bind λr M=>.ok (.d (.bl r)) M):=q1;exact rN (q1.shift g2 s1.mem m2)
  ·exact two (λm r1 r2 h=>⟨_,_,_,_,m,r1,r2,λz=>absurd z Wx,rN h⟩) q
 exact⟨eQ (BB (jv ∅ op) (zf l h1) (Ct r h2) hm) mE,IV (BC (jv ∅ op) (zf l h1) (Ct r h2) hm) λσ H Q q=>mE σ H _ q⟩
theorem Pw{a:C}{e:Expr}(zf:∀e,bB cc a e=true->PE X e (tE X.K (ev G a)))(h:bB cc (.neg a) e=true):PE X e (tE X.K (ev G (.neg a))):=by
 refine d7 (P:=λe=>PE X e _) h λop x pos h=>?_;obtain⟨h0,h⟩:=(aF _ _).mp h;cases op<;>first | exact absurd (show false=true from h0) aI | skip
 refine eQ (Hh (zf x h)) λσ H Q q=>?_;obtain⟨ads,M,ρ,s,q⟩:=q;refine cJ s q λw M1 v H1 ag s1 kX q1=>?_;rcases w with⟨_ | b | _|_|_|_⟩|_<;>first | exact q1.elim | skip
 exact⟨b,iE kX,bz.plain q1 s1.mem (jK _)⟩
theorem Px{cs:List C}{e:Expr}(ih:∀es,bU cc cs es=true->PA X es (AR X.K (bh G cs)))(h:bB cc (.tup cs) e=true):PE X e (tE X.K (ev G (.tup cs))):=by
 refine hU (P:=λe=>PE X e _) h λes k pos h=>?_;refine eQ (HC (ih es h)) λσ H Q q=>?_;obtain⟨ads,M,ρ,s,q⟩:=q;refine⟨ads,M,ρ,s,?_⟩;simp only[yY]at q
 cases hq:bh G cs ρ M with
 | ok ds M1 =>
  rw[hq]at q;have q:bz X.K ads H Q (if ds.length<=sizeLine then .ok (.d (.tup ds)) M1 else .aa):=q;intro vs H1 ag g1 m1 r1;split at q
  ·rename_i hz
   exact⟨by rw[<- r1.len];exact hz,λp hp=>(q.shift g1 s.mem m1).tuple m1 r1 hp⟩
  ·exact q.elim
 | err _ _=>rw[hq]at q;exact q
 | aa=>rw[hq]at q;exact q
theorem Py{cs:List C}{e:Expr}(ih:∀es,bU cc cs es=true->PA X es (AR X.K (bh G cs)))(h:bB cc (.lst cs) e=true):PE X e (tE X.K (ev G (.lst cs))):=by
 refine vQ (P:=λe=>PE X e _) h λes pos h=>?_;refine eQ (HD (ih es h)) λσ H Q q=>?_;obtain⟨ads,M,ρ,s,q⟩:=q;refine⟨ads,M,ρ,s,?_⟩;simp only[yZ]at q
 cases hq:bh G cs ρ M with
 | ok ds M1 =>
  rw[hq]at q;have q:bz X.K ads H Q (if ds.length<=sizeLine then .ok (.lv ds) M1 else .aa):=q;intro vs H1 ag g1 m1 r1;split at q
  ·rename_i hz
   exact⟨by rw[<- r1.len];exact hz,λp hp=>(q.shift g1 s.mem m1).list m1 r1 hp⟩
  ·exact q.elim
 | err _ _=>rw[hq]at q;exact q
 | aa=>rw[hq]at q;exact q
theorem nX{K:PySem.W.Frag}{ads aq:List Addr}{H H':Hp}{w:W}{v:V}{M1:af}{d:D}{M2:af}(m:aM K ads H M)(g:ay ads aq H H')(m1:aM K aq H' M1)(r:Iy K aq H H' w v)(e:own w M1=.ok d M2):∃aX,ay ads aX H H'/\aM K aX H' M2/\RD K aX H' d v:=by
 cases w with
 | d x=>cases e;exact⟨aq,g,m1,r⟩
 | lv ds =>
  cases e;obtain⟨a,xs,rfl,h0,h1,n,r⟩:=r;refine⟨aq++[a],⟨?_,λb hb nb=>?_,g.kept,g.fQ,g.fP⟩,m1.push n ⟨xs,h1,r⟩,?_⟩
  ·obtain⟨t,e⟩:=g.pre;exact⟨t++[a],by rw[e,jM]⟩
  ·rcases fN.mp hb with z | z
   ·exact g.new b z nb
   ·have:b=a:=by simpa using z
    subst this;exact h0
  ·unfold RD;exact⟨a,rfl,by rw[lT (by rw[m1.len];exact a7 _)];simp[m1.len]⟩
theorem Pz:PA X [] (AR X.K (bh G [])):=RF jl λσ H Q q=>by
 obtain⟨ads,M,ρ,s,q⟩:=q;exact q [] H ads (ay.refl _ _) s.mem (by unfold aH;rfl)
theorem IW{c:C}{cs:List C}{e:Expr}{es:List Expr}(hs:az e=true)(ha:PE X e (tE X.K (ev G c)))(hr:PA X es (AR X.K (bh G cs))):PA X (e::es) (AR X.K (bh G (c::cs))):=by
 refine RF (d6 ha hr (bc hs es X.env)) λσ H Q q=>?_;obtain⟨ads,M,ρ,s,q⟩:=q;refine⟨ads,M,ρ,s,?_⟩;simp only[fk,d8]at q
 cases hq:ev G c ρ M with
 | ok w M1 =>
  rw[hq]at q;intro v H1 ag g1 m1 r1
  cases ho:own w M1 with
  | ok d M2 =>
   have q:pP X.K ads H Q ((own w M1).bind λd M=>(bh G cs ρ M).bind λds M=>.ok (d::ds) M):=q;rw[ho]at q;obtain⟨aX,g2,m2,rd⟩:=nX s.mem g1 m1 r1 ho;refine⟨aX,M2,ρ,s.grow g2 m2,?_⟩;have q:pP X.K ads H Q ((bh G cs ρ M2).bind λds M=>.ok (d::ds) M):=q
   cases zh:bh G cs ρ M2 with
   | ok ds M3 =>
    rw[zh]at q;intro vs H3 dv g3 m3 r3;refine q (v::vs) H3 dv (g2.trans g3) m3 ?_;unfold aH;exact⟨v,vs,rfl,g3.rd _ _ rd,r3⟩
   | err _ _=>rw[zh]at q;exact EX.shift (show EX.post X.K ads H _ _ from q) g2
   | aa=>rw[zh]at q;exact q
  | err _ _=>cases w<;>cases ho
  | aa=>cases w<;>cases ho
 | err _ _=>rw[hq]at q;exact q
 | aa=>rw[hq]at q;exact q
end
end
section
variable [EX]
section
variable {kk:Nat} {X:Cx} {cc:CC} {G:bo}
theorem tK{o1 o2:vE}{a b c:C}{e:Expr}(g:eE kk X cc G)(zf:∀e,bB cc a e=true->PE X e (tE X.K (ev G a)))(Ct:∀e,bB cc b e=true->PE X e (tE X.K (ev G b)))(RG:∀e,bB cc c e=true->PE X e (tE X.K (ev G c)))(h:bB cc (.chain o1 o2 a b c) e=true):PE X e (tE X.K (ev G (.chain o1 o2 a b c)))/\PT X e (kr (tE X.K (ev G (.chain o1 o2 a b c)))):=by
 refine iH (P:=λe=>PE X e (tE X.K (ev G (.chain o1 o2 a b c)))/\PT X e (kr (tE X.K (ev G (.chain o1 o2 a b c))))) h λl ops rs pos h=>?_;rcases ops with _|⟨p,_|⟨q,_|⟨_,ops⟩⟩⟩<;>rcases rs with _|⟨m,_|⟨r,_|⟨_,rs⟩⟩⟩<;>first | exact absurd (show false=true from h) aI | skip
 have h:(p==IB o1&&q==IB o2 && !lastMarks [p,q] [m,r] && !(decide (o1=.isN)||decide (o1=.notN)||decide (o2=.isN)||decide (o2=.notN))&&bB cc a l&&bB cc b m&&bB cc c r)=true:=h;simp only[aF,eT,gX,Bool.or_eq_false_iff,decide_eq_false_iff_not]at h;obtain⟨⟨⟨⟨⟨⟨rfl,rfl⟩,hm⟩,⟨⟨⟨n1,n2⟩,n3⟩,n4⟩⟩,h1⟩,h2⟩,h3⟩:=h;have Ul:=g.rh.un
 have mE:∀σ H Q,tE X.K (ev G (.chain o1 o2 a b c)) σ H Q->qS (Cj X.K o1) (Cj X.K o2) (tE X.K (ev G a)) (tE X.K (ev G b)) (tE X.K (ev G c)) σ H Q:=by
  intro σ H Q q;obtain⟨ads,M,ρ,s,q⟩:=q;refine cJ s q λx M1 v H1 ag s1 rx q1=>?_;refine⟨ag,M1,ρ,s1,?_⟩
  cases hq:ev G b ρ M1 with
  | ok y M2 =>
   rw[hq]at q1;intro vy H2 aX g2 m2 ry;have q2:bz X.K ag H1 Q ((bD o1 x y M2).bind λr M=>if r then (ev G c ρ M).bind λz M=>(bD o2 y z M).bind λr M=>.ok (.d (.bl r)) M else .ok (.d (.bl false)) M):=q1;have s2:=s1.grow g2 m2;refine⟨aX,M2,x,y,m2,g2.rw rx,ry.rw,λz=>absurd z (by simp[n1,n2]),?_⟩
   cases hc:bD o1 x y M2 with
   | ok k M3 =>
    rw[hc]at q2;intro H3 dv g3 m3;have s3:=s2.grow g3 m3;have YA:=g3.rw ry.rw;refine⟨k,rfl,?_⟩;have q3:bz X.K dv H3 Q (if k then (ev G c ρ M3).bind λz M=>(bD o2 y z M).bind λr M=>.ok (.d (.bl r)) M else .ok (.d (.bl false)) M3):=bz.shift q2 (g2.trans g3) s1.mem m3
    cases k with
    | false=>rw[aT (by simp)]at q3⊢;exact bz.plain q3 m3 (jK _)
    | true =>
     rw[aG rfl]at q3⊢;refine⟨dv,M3,ρ,s3,?_⟩
     cases hz:ev G c ρ M3 with
     | ok z M4 =>
      rw[hz]at q3;intro vz H4 Cu g4 m4 rz;exact⟨Cu,M4,y,z,m4,g4.rw YA,rz.rw,λw=>absurd w (by simp[n3,n4]),rN (bz.shift (o:=(bD o2 y z M4).bind λr M=>.ok (.d (.bl r)) M) q3 g4 m3 m4)⟩
     | err _ _=>rw[hz]at q3;exact q3
     | aa=>rw[hz]at q3;exact q3
   | err _ _=>rw[hc]at q2;exact EX.shift (show EX.post X.K ag H1 _ _ from q2) g2
   | aa=>rw[hc]at q2;exact q2
  | err _ _=>rw[hq]at q1;exact q1
  | aa=>rw[hq]at q1;exact q1
 exact⟨eQ (x9 (jv ∅ o1) (jv ∅ o2) (zf l h1) (Ct m h2) (RG r h3) hm) mE,IV (x_ (jv ∅ o1) (jv ∅ o2) (zf l h1) (Ct m h2) (RG r h3) hm) λσ H Q q=>mE σ H _ q⟩
theorem Cv{x:Str}{tt:rA}{b:C}{i:Expr}{p pos:Pos}(g:eE kk X cc G)(hg:glob cc x=true)(hp:bt x=true)(ht:(x,tt)∈cc.xs.tb)(hs:Ow i)(hi:PE X i (tE X.K (ev G b))):PE X (.Subscript (.Name x p) i pos) (tE X.K (ev G (.iA x tt b))):=by
 obtain⟨a,vs,hm,hd,dd,hk⟩:=g.xN x tt ht;intro pins s σ H Q I q;refine BF PySem.F.slot_dict_getitem.lookup hs (nw I (g.gl hg) hm ?_ (du hp).1);obtain⟨ads,M,ρ,sr,q⟩:=q;refine cj (hi pins s σ H (λy H2=>∃aX M2 w,aM X.K aX H2 M2/\RW X.K aX H2 w y/\bz X.K aX H2 Q (nR tt w M2)) I ⟨ads,M,ρ,sr,?_⟩) λiv s2 ⟨y,H2,I2,ry,aX,M2,w,m2,O0,q2⟩=>?_
 ·rw[tw]at q
  cases hq:ev G b ρ M with
  | ok w M1 =>
   rw[hq]at q;intro v H1 ag g1 m1 r1;exact⟨ag,M1,w,m1,r1.rw,bz.shift (o:=nR tt w M1) q g1 sr.mem m1⟩
  | err _ _=>rw[hq]at q;exact q
  | aa=>rw[hq]at q;exact q
 ·rcases w with⟨_|_|_ | k | _|_|_⟩|_<;>first | exact q2.elim | skip
  have e1:=bT O0;subst e1;have hk:=hk k;unfold nR at q2;dsimp only at q2
  cases hl:tt.lookup k with
  | none=>rw[hl]at q2;exact q2.elim
  | some pr =>
   rw[hl]at q2 hk;obtain⟨u,v,h1,h2,h3⟩:=hk;have D:=dd s2.heap I2.nk;refine⟨D.typeIs,wpAny_getItem_of (pj (k:=.inr k) ry) D.mapOf h1 ⟨v,H2,I2.tok _,h2,?_⟩⟩;exact bz.plain q2 m2 (h3 aX H2)
theorem PB{a b:C}{e:Expr}(zf:∀e,bB cc a e=true->PE X e (tE X.K (ev G a)))(Ct:∀e,bB cc b e=true->PE X e (tE X.K (ev G b)))(h:bB cc (.cat a b) e=true):PE X e (tE X.K (ev G (.cat a b))):=by
 refine k7 (P:=λe=>PE X e _) h λl o r pos h=>?_;have h:(o == .Add&&bB cc a l&&bB cc b r)=true:=h;simp only[aF,eT]at h;obtain⟨⟨rfl,h1⟩,h2⟩:=h;refine eQ (Fl qU (zf l h1) (Ct r h2)) λσ H Q q=>two (λ{ads M H x y vx vy Q} m r1 r2 h=>?_) q;rcases x with⟨_|_|_ | k | _|_|_⟩|_<;>first | exact h.elim | skip
 rcases y with⟨_|_|_ | j | _|_|_⟩|_<;>first | exact h.elim | skip
 have e1:=bT r1;have e2:=bT r2;subst e1 e2;unfold rE at h;dsimp only at h;by_cases c:k.length+j.length<=sizeLine
 ·rw[aG c]at h;exact⟨k,j,rfl,rfl,c,bz.plain h m (eA _)⟩
 ·rw[aT c]at h;exact h.elim
theorem FT{op:BoolOp}:∀(cs:List C)(es:List Expr)(pos:Pos),(∀c∈cs,∀e,bB cc c e=true->PE X e (tE X.K (ev G c)))->bU cc cs es=true->es≠[]->PE X (.BoolOp .And es pos) (tE X.K (gR G cs))
 | [],[],_,_,_,h=>absurd rfl h
 | [],_::_,_,_,h,_=>by cases h
 | _::_,[],_,_,h,_=>by cases h
 | c::cs,e::es,pos,ih,h,_=>by
  have h':(az e&&bB cc c e&&bU cc cs es)=true:=h;simp only[aF]at h';have he:=ih c cG e h'.1.2
  cases es with
  | nil =>
   cases cs with
   | cons _ _=>cases h'.2
   | nil =>
    refine eQ (xU he) λσ H Q q=>?_;obtain⟨ads,M,ρ,s,q⟩:=q;refine⟨ads,M,ρ,s,?_⟩;simp only[jq,g8]at q
    cases hq:ev G c ρ M with
    | ok w M1=>rw[hq]at q;exact q
    | err _ _=>rw[hq]at q;exact q
    | aa=>rw[hq]at q;exact q
  | cons e2 es =>
   cases cs with
   | nil=>cases h'.2
   | cons c2 cs =>
    have hr:=FT (op:=op) (c2::cs) (e2::es) pos (λc hc=>ih c (cZ _ hc)) h'.2 (by simp);refine eQ (Hg he hr) λσ H Q q=>?_;obtain⟨ads,M,ρ,s,q⟩:=q
    have q:bz X.K ads H Q ((ev G c ρ M).bind λx M=>match c2::cs,x with
     | [],x=>.ok x M
     | _,.d (.bl true)=>gR G (c2::cs) ρ M
     | _,.d (.bl false)=>.ok (.d (.bl false)) M
     | _,_=>.aa):=by unfold gR at q;exact q
    refine cJ s q λw M1 v H1 ag s1 kX q1=>?_;rcases w with⟨_ | b | _|_|_|_⟩|_<;>first | exact q1.elim | skip
    refine⟨b,iE kX,?_⟩
    cases b with
    | false=>rw[aT (by simp)];exact bz.plain q1 s1.mem (jK _)
    | true=>rw[aG rfl];exact⟨ag,M1,ρ,s1,q1⟩
theorem PC:∀(cs:List C)(es:List Expr)(pos:Pos),(∀c∈cs,∀e,bB cc c e=true->PE X e (tE X.K (ev G c)))->bU cc cs es=true->es≠[]->PE X (.BoolOp .Or es pos) (tE X.K (mh G cs))
 | [],[],_,_,_,h=>absurd rfl h
 | [],_::_,_,_,h,_=>by cases h
 | _::_,[],_,_,h,_=>by cases h
 | c::cs,e::es,pos,ih,h,_=>by
  have h':(az e&&bB cc c e&&bU cc cs es)=true:=h;simp only[aF]at h';have he:=ih c cG e h'.1.2
  cases es with
  | nil =>
   cases cs with
   | cons _ _=>cases h'.2
   | nil =>
    refine eQ (xU he) λσ H Q q=>?_;obtain⟨ads,M,ρ,s,q⟩:=q;refine⟨ads,M,ρ,s,?_⟩;simp only[kT,jr]at q
    cases hq:ev G c ρ M with
    | ok w M1=>rw[hq]at q;exact q
    | err _ _=>rw[hq]at q;exact q
    | aa=>rw[hq]at q;exact q
  | cons e2 es =>
   cases cs with
   | nil=>cases h'.2
   | cons c2 cs =>
    have hr:=PC (c2::cs) (e2::es) pos (λc hc=>ih c (cZ _ hc)) h'.2 (by simp);refine eQ (N0 he hr) λσ H Q q=>?_;obtain⟨ads,M,ρ,s,q⟩:=q
    have q:bz X.K ads H Q ((ev G c ρ M).bind λx M=>match c2::cs,x with
     | [],x=>.ok x M
     | _,.d (.bl false)=>mh G (c2::cs) ρ M
     | _,.d (.bl true)=>.ok (.d (.bl true)) M
     | _,_=>.aa):=by unfold mh at q;exact q
    refine cJ s q λw M1 v H1 ag s1 kX q1=>?_;rcases w with⟨_ | b | _|_|_|_⟩|_<;>first | exact q1.elim | skip
    refine⟨b,iE kX,?_⟩
    cases b with
    | true=>rw[aG rfl];exact bz.plain q1 s1.mem (jK _)
    | false=>rw[aT (by simp)];exact⟨ag,M1,ρ,s1,q1⟩
theorem nY{K:PySem.W.Frag}{ads:List Addr}{H:Hp}{M:af}{ρ:En}{σ:L2.St}{o:En->af->bE Bool}{k:Bool->af->bE Bool}{Q:Bool->Hp->Prop}{R:Bool->Hp->Prop}(s:SR K ads M ρ σ H)(h:AQ K ads H Q ((o ρ M).bind k))(hk:∀w M1 H1 ag,SR K ag M1 ρ σ H1->AQ K ag H1 Q (k w M1)->R w H1):lS K o σ H R:=by
 refine⟨ads,M,ρ,s,?_⟩
 cases q:o ρ M with
 | ok w M1 =>
  rw[q]at h;have h:AQ K ads H Q (k w M1):=h;exact λH1 ag g1 m1=>hk w M1 H1 ag (s.grow g1 m1) (h.shift g1)
 | err _ _=>rw[q]at h;exact h
 | aa=>rw[q]at h;exact h
theorem PD{c:C}{σ:L2.St}{H:Hp}{Q:Bool->Hp->Prop}(h:lS X.K (dm G (.val c)) σ H Q):tE X.K (ev G c) σ H λx H'=>∃k,ya X.K x H' k/\Q k H':=by
 obtain⟨ads,M,ρ,s,q⟩:=h;refine⟨ads,M,ρ,s,?_⟩;simp only[nT]at q
 cases hq:ev G c ρ M with
 | ok w M1 =>
  rw[hq]at q;intro v H1 ag g1 m1 r1;have q:AQ X.K ads H Q (match md M1 w with | some r=>.ok r M1 | none=>.aa):=q
  cases ht:md M1 w with
  | none=>rw[ht]at q;exact q.elim
  | some k=>rw[ht]at q;exact⟨k,Pn m1 r1.rw ht,q H1 ag g1 m1⟩
 | err _ _=>rw[hq]at q;exact q
 | aa=>rw[hq]at q;exact q
theorem Cy{e:Expr}(h:gC e=true)(env:Env):∀km,isTrue e env km=(do let v <- km;standAt e.pos;holding [v] (truthy v)):=by
 cases e<;>first | (intro _;rfl) | exact absurd (show false=true from h) aI
theorem Cz{c:C}{e:Expr}(hp:gC e=true)(he:PE X e (tE X.K (ev G c))):PT X e (lS X.K (dm G (.val c))) :=
 IV (yb he (Cy hp X.env)) λσ H Q q=>PD q
theorem zi{c:C}{e:Expr}(hb:∀ρ M w M',ev G c ρ M=.ok w M'->∃k,w=.d (.bl k))(he:PT X e (kr (tE X.K (ev G c)))):PT X e (lS X.K (dm G (.val c))):=by
 refine IV he λσ H Q q=>?_;obtain⟨ads,M,ρ,s,q⟩:=q;refine⟨ads,M,ρ,s,?_⟩;simp only[nT]at q
 cases hq:ev G c ρ M with
 | ok w M1 =>
  rw[hq]at q;obtain⟨k,rfl⟩:=hb _ _ _ _ hq;intro v H1 ag g1 m1 r1;exact⟨k,iE r1,q H1 ag g1 m1⟩
 | err _ _=>rw[hq]at q;exact q
 | aa=>rw[hq]at q;exact q
theorem IY{op:vE}{a b:C}(ρ:En)(M:af)(w:W)(M':af)(h:ev G (.cmp op a b) ρ M=.ok w M'):∃k,w=.d (.bl k):=by
 simp only[yW]at h
 cases h1:ev G a ρ M with
 | ok x M1 =>
  rw[h1]at h;simp only[bE.bind]at h
  cases h2:ev G b ρ M1 with
  | ok y M2 =>
   rw[h2]at h;simp only at h
   cases h3:bD op x y M2 with
   | ok k M3=>rw[h3]at h;cases h;exact⟨k,rfl⟩
   | err _ _=>rw[h3]at h;cases h
   | aa=>rw[h3]at h;cases h
  | err _ _=>rw[h2]at h;cases h
  | aa=>rw[h2]at h;cases h
 | err _ _=>rw[h1]at h;cases h
 | aa=>rw[h1]at h;cases h
theorem zj{o1 o2:vE}{a b c:C}(ρ:En)(M:af)(w:W)(M':af)(h:ev G (.chain o1 o2 a b c) ρ M=.ok w M'):∃k,w=.d (.bl k):=by
 simp only[pN]at h
 cases h1:ev G a ρ M with
 | ok x M1 =>
  rw[h1]at h;simp only[bE.bind]at h
  cases h2:ev G b ρ M1 with
  | ok y M2 =>
   rw[h2]at h;simp only at h
   cases h3:bD o1 x y M2 with
   | ok k M3 =>
    rw[h3]at h;simp only at h
    cases k with
    | false=>cases h;exact⟨_,rfl⟩
    | true =>
     simp only[fO]at h
     cases h4:ev G c ρ M3 with
     | ok z M4 =>
      rw[h4]at h;simp only at h
      cases h5:bD o2 y z M4 with
      | ok k M5=>rw[h5]at h;cases h;exact⟨k,rfl⟩
      | err _ _=>rw[h5]at h;cases h
      | aa=>rw[h5]at h;cases h
     | err _ _=>rw[h4]at h;cases h
     | aa=>rw[h4]at h;cases h
   | err _ _=>rw[h3]at h;cases h
   | aa=>rw[h3]at h;cases h
  | err _ _=>rw[h2]at h;cases h
  | aa=>rw[h2]at h;cases h
 | err _ _=>rw[h1]at h;cases h
 | aa=>rw[h1]at h;cases h
theorem PF{t:dU}{e:Expr}{pos:Pos}(ih:PT X e (lS X.K (dm G t))):PT X (.UnaryOp .Not e pos) (lS X.K (dm G (.neg t))):=by
 refine IV (Hf ih) λσ H Q q=>?_;obtain⟨ads,M,ρ,s,q⟩:=q;exact nY s q λw M1 H1 ag s1 q1=>q1 H1 ag (ay.refl _ _) s1.mem
theorem FU:∀(ts:List dU)(es:List Expr)(pos:Pos),(∀t∈ts,∀e,jw cc t e=true->PT X e (lS X.K (dm G t)))->lg cc ts es=true->es≠[]->PW X (.BoolOp .And es pos) (lS X.K (eN G ts))
 | [],[],_,_,_,h=>absurd rfl h
 | [],_::_,_,_,h,_=>by cases h
 | _::_,[],_,_,h,_=>by cases h
 | c::cs,e::es,pos,ih,h,_=>by
  have h':(jw cc c e&&lg cc cs es)=true:=h;simp only[aF]at h';have he:=ih c cG e h'.1
  cases es with
  | nil =>
   cases cs with
   | cons _ _=>cases h'.2
   | nil =>
    refine RE (Bt he) λσ H Q q=>?_;obtain⟨ads,M,ρ,s,q⟩:=q;refine⟨ads,M,ρ,s,?_⟩;simp only[jt,g9]at q
    cases hq:dm G c ρ M with
    | ok w M1=>rw[hq]at q;exact q
    | err _ _=>rw[hq]at q;exact q
    | aa=>rw[hq]at q;exact q
  | cons e2 es =>
   cases cs with
   | nil=>cases h'.2
   | cons c2 cs =>
    have hr:=FU (c2::cs) (e2::es) pos (λc hc=>ih c (cZ _ hc)) h'.2 (by simp);refine RE (He he hr) λσ H Q q=>?_;obtain⟨ads,M,ρ,s,q⟩:=q
    have q:AQ X.K ads H Q ((dm G c ρ M).bind λx M=>match c2::cs,x with
     | [],x=>.ok x M
     | _,true=>eN G (c2::cs) ρ M
     | _,false=>.ok false M):=by unfold eN at q;exact q
    refine nY s q λw M1 H1 ag s1 q1=>?_
    cases w with
    | false=>rw[aT (by simp)];exact q1 H1 ag (ay.refl _ _) s1.mem
    | true=>rw[aG rfl];exact⟨ag,M1,ρ,s1,q1⟩
theorem FV:∀(ts:List dU)(es:List Expr)(pos:Pos),(∀t∈ts,∀e,jw cc t e=true->PT X e (lS X.K (dm G t)))->lg cc ts es=true->es≠[]->PW X (.BoolOp .Or es pos) (lS X.K (eO G ts))
 | [],[],_,_,_,h=>absurd rfl h
 | [],_::_,_,_,h,_=>by cases h
 | _::_,[],_,_,h,_=>by cases h
 | c::cs,e::es,pos,ih,h,_=>by
  have h':(jw cc c e&&lg cc cs es)=true:=h;simp only[aF]at h';have he:=ih c cG e h'.1
  cases es with
  | nil =>
   cases cs with
   | cons _ _=>cases h'.2
   | nil =>
    refine RE (Hd he) λσ H Q q=>?_;obtain⟨ads,M,ρ,s,q⟩:=q;refine⟨ads,M,ρ,s,?_⟩;simp only[ju,g_]at q
    cases hq:dm G c ρ M with
    | ok w M1=>rw[hq]at q;exact q
    | err _ _=>rw[hq]at q;exact q
    | aa=>rw[hq]at q;exact q
  | cons e2 es =>
   cases cs with
   | nil=>cases h'.2
   | cons c2 cs =>
    have hr:=FV (c2::cs) (e2::es) pos (λc hc=>ih c (cZ _ hc)) h'.2 (by simp);refine RE (NX he hr) λσ H Q q=>?_;obtain⟨ads,M,ρ,s,q⟩:=q
    have q:AQ X.K ads H Q ((dm G c ρ M).bind λx M=>match c2::cs,x with
     | [],x=>.ok x M
     | _,false=>eO G (c2::cs) ρ M
     | _,true=>.ok true M):=by unfold eO at q;exact q
    refine nY s q λw M1 H1 ag s1 q1=>?_
    cases w with
    | true=>rw[aG rfl];exact q1 H1 ag (ay.refl _ _) s1.mem
    | false=>rw[aT (by simp)];exact⟨ag,M1,ρ,s1,q1⟩
theorem PH{t:dU}{a b:C}{c x y:Expr}{pos:Pos}(ht:PT X c (lS X.K (dm G t)))(ha:PE X x (tE X.K (ev G a)))(hb:PE X y (tE X.K (ev G b))):PE X (.IfExp c x y pos) (tE X.K (ev G (.ite t a b))):=by
 refine eQ (xV ht ha hb) λσ H Q q=>?_;obtain⟨ads,M,ρ,s,q⟩:=q;refine⟨ads,M,ρ,s,?_⟩;simp only[yX]at q
 cases hq:dm G t ρ M with
 | ok w M1 =>
  rw[hq]at q;intro H1 ag g1 m1;have q:bz X.K ads H Q (if w then ev G a ρ M1 else ev G b ρ M1):=q;have q:=q.shift g1 s.mem m1
  cases w with
  | true=>rw[aG rfl]at q⊢;exact⟨ag,M1,ρ,s.grow g1 m1,q⟩
  | false=>rw[aT (by simp)]at q⊢;exact⟨ag,M1,ρ,s.grow g1 m1,q⟩
 | err _ _=>rw[hq]at q;exact q
 | aa=>rw[hq]at q;exact q
end
end
section
variable [EX]
section
variable {kk:Nat} {X:Cx} {cc:CC} {G:bo}
theorem lh{b:Expr}(h:gB b=true):sU b:=by
 intro o i;cases b<;>first | rfl | exact absurd (show false=true from h) aI
theorem PJ{a b:C}{e i:Expr}{pos:Pos}(g:eE kk X cc G)(hs:gB i=true)(ha:PE X e (tE X.K (ev G a)))(hb:PE X i (tE X.K (ev G b))):PE X (.Subscript e i pos) (tE X.K (ev G (.sub a b))):=by
 have Ul:=g.rh.un;refine eQ (OF (ID ∅) ha hb (lh hs)) λσ H Q q=>?_;exact two (λm r1 r2 h=>⟨_,_,_,_,m,r1,r2,h⟩) q
def YB(K:PySem.W.Frag)(ads:List Addr)(H:Hp)(Q:Option Int->Hp->Prop):bE (Option Int)->Prop
 | .ok o M=>∀H' aq,ay ads aq H H'->aM K aq H' M->Q o H'
 | .err x M=>EX.post K ads H x M
 | .aa=>False
def tO(K:PySem.W.Frag)(o:En->af->bE (Option Int)):TO:=λσ H Q=>∃ads M ρ,SR K ads M ρ σ H/\YB K ads H Q (o ρ M)
theorem IZ:PO X none (tO X.K (oK G none)):=λpins s σ H Q I q=>BN pins s σ H Q I (by
 obtain⟨ads,M,ρ,s,q⟩:=q;exact q H ads (ay.refl _ _) s.mem)
theorem I0{c:C}{e:Expr}(h:PE X e (tE X.K (ev G c))):PO X (some e) (tO X.K (oK G (some c))):=λpins s σ H Q I q=>BO h pins s σ H Q I (by
 obtain⟨ads,M,ρ,s,q⟩:=q;refine⟨ads,M,ρ,s,?_⟩;simp only[kU,kW]at q
 cases hq:ev G c ρ M with
 | ok w M1 =>
  rw[hq]at q;intro v H1 ag g1 m1 r1;rcases w with⟨_|_ | i | _|_|_⟩|_<;>first | exact q.elim | skip
  exact⟨i,aY r1,q H1 ag g1 m1⟩
 | err _ _=>rw[hq]at q;exact q
 | aa=>rw[hq]at q;exact q)
theorem PK{a:C}{lo hi:Option C}{e:Expr}{l h:Option Expr}{pos p2:Pos}(ha:PE X e (tE X.K (ev G a)))(hl:PO X l (tO X.K (oK G lo)))(hh:PO X h (tO X.K (oK G hi))):PE X (.Subscript e (.Slice l h none p2) pos) (tE X.K (ev G (.pG a lo hi))):=by
 refine eQ (yv IE ha hl hh) λσ H Q q=>?_;obtain⟨ads,M,ρ,s,q⟩:=q;refine cJ s q λw M1 v H1 ag s1 kX q1=>⟨ag,M1,ρ,s1,?_⟩
 cases hq:oK G lo ρ M1 with
 | ok o1 M2 =>
  rw[hq]at q1;have q1:bz X.K ag H1 Q ((oK G hi ρ M2).bind λh M=>kM w o1 h M):=q1;intro H2 aX g2 m2;have s2:=s1.grow g2 m2;refine⟨aX,M2,ρ,s2,?_⟩
  cases zk:oK G hi ρ M2 with
  | ok o2 M3 =>
   rw[zk]at q1;intro H3 dv g3 m3;exact⟨dv,M3,w,m3,g3.rw (g2.rw kX),bz.shift (o:=kM w o1 o2 M3) q1 (g2.trans g3) s1.mem m3⟩
  | err _ _=>rw[zk]at q1;exact EX.shift (show EX.post X.K ag H1 _ _ from q1) g2
  | aa=>rw[zk]at q1;exact q1
 | err _ _=>rw[hq]at q1;exact q1
 | aa=>rw[hq]at q1;exact q1
theorem lp:∀(cs:List C)(ρ:En)(M:af)(ds:List D)(M':af),bh G cs ρ M=.ok ds M'->ds.length=cs.length
 | [],ρ,M,ds,M',h=>by cases h;rfl
 | c::cs,ρ,M,ds,M',h=>by
  simp only[fk,d8]at h
  cases h1:(ev G c ρ M).bind own with
  | ok d M1 =>
   rw[h1]at h;simp only[bE.bind]at h
   cases h2:bh G cs ρ M1 with
   | ok es M2=>rw[h2]at h;cases h;simp[lp cs ρ M1 es _ h2]
   | err _ _=>rw[h2]at h;cases h
   | aa=>rw[h2]at h;cases h
  | err _ _=>rw[h1]at h;cases h
  | aa=>rw[h1]at h;cases h
theorem cV{cs:List C}{es:List Expr}(h:bU cc cs es=true)(env:Env)(pos:Pos):(backTo pos (starEach es env)).any (·.1)=false:=by
 have:∀(cs:List C)(es:List Expr),bU cc cs es=true->(starEach es env).any (·.1)=false:=by
  intro cs
  induction cs with
  | nil=>intro es h;cases es with
   | nil=>rfl
   | cons _ _=>cases h
  | cons c cs ih =>
   intro es h
   cases es with
   | nil=>cases h
   | cons e es =>
    have h':(az e&&bB cc c e&&bU cc cs es)=true:=h;simp only[aF]at h';rw[bc h'.1.1,wI,ih es h'.2];rfl
 have e:=this cs es h;unfold backTo;simp only[List.any_map];exact e
theorem I_{f:Nat}{cs:List C}{x:Str}{e:Expr}{es:List Expr}{p pos:Pos}(g:Good kk X cc G)(hf:cc.fs[f]?=some (x,cs.length))(hg:glob cc x=true)(hp:bt x=true)(hc:bU cc cs (e::es)=true)(ha:PA X (e::es) (AR X.K (bh G cs))):PE X (.Call (.Name x p) (e::es) [] pos) (tE X.K (ev G (.call f cs))):=by
 obtain⟨fa,fd,ps,F,hm,hk,hb⟩:=g.fns f x _ hf;obtain⟨E,hE,im⟩:=g.ex
 have jX:az e=true/\bU cc cs.tail es=true:=by
  cases cs with
  | nil=>cases hc
  | cons c cs =>
   have h':(az e&&bB cc c e&&bU cc cs es)=true:=hc;simp only[aF]at h';exact⟨h'.1.1,h'.2⟩
 refine eQ (BE (pos:=pos) (p:=p) (E:=E) F g.room (g.gl hg) hm hk hb .nil hE ha (du hp).1 (bc jX.1 es X.env) (cV jX.2 X.env pos)) λσ H Q q=>?_;obtain⟨ads,M,ρ,s,q⟩:=q;refine⟨ads,M,ρ,s,?_⟩;simp only[tu]at q
 cases hq:bh G cs ρ M with
 | ok ds M1 =>
  rw[hq]at q;intro vs H1 ag g1 m1 r1;refine⟨ag,M1,ds,m1,?_,lp cs ρ M ds M1 hq,bz.imp im (bz.shift (o:=G f ds M1) q g1 s.mem m1)⟩;rw[lU];exact r1
 | err _ _=>rw[hq]at q;exact q
 | aa=>rw[hq]at q;exact q
theorem Ja{E:Value->Shared->Prop}{pins:List (Addr×Obj)}{s:Shared}{σ:L2.St}{H:Hp}{i:Nat}{x:Str}{v:V}{pos:Pos}{Q:Value->Shared->Prop}(I:Inv X pins σ H s)(hN:X.N[i]?=some x)(hv:Rf X.env.scope x)(e:σ[i]?=some (some v))(h:∀u,RelV v u->Q u s) (hd:(x==("__debug__" : Str))=false) (AK:(x==("__classdict__" : Str))=false):wpAny (model X.prog X.w) X.A (eval (.Name x pos) X.env) Q E s:=by
 obtain⟨m,hn,hl⟩:=I.loc;obtain⟨u,r,l⟩:=hl i x v hN e hv;have fin:=h u r;rcases l with⟨hk,hm⟩|⟨hk,c,hc,ko⟩
 ·exact uS (wpAny_loadName_local I.ok.kind hk hn hm fin) hd
 ·rcases hk with hk | hk
  ·exact uS (wpAny_loadName_cell I.ok.kind hk hc ko fin) hd
  ·exact uS (wpAny_loadName_free I.ok.kind hk hc ko fin AK) hd
theorem PL{y:Str}{a:Addr}{p:Pos}(g:Good kk X cc G)(hg:glob cc y=true)(hp:bt y=true)(h:(y,a)∈cc.xs.fa):PE X (.Name y p) (tE X.K (ev G (.vH y a))):=by
 refine eQ (ny (v:=.ref a) (u:=.ref a) (g.gl hg) (g.RC y a h) rfl (du hp).1) λσ H Q q=>?_;obtain⟨ads,M,ρ,s,q⟩:=q;rw[Iq]at q;exact bz.plain q s.mem (by unfold RD;rfl)
theorem PM{x v:Str}{pos:Pos}(g:Good kk X cc G)(hg:glob cc x=true)(hp:bt x=true)(h:(x,v)∈cc.xs.gt):PE X (.Name x pos) (tE X.K (ev G (.rB x v))):=by
 obtain⟨t,ht⟩:=g.rB x v h;refine eQ (ny (v:=.str v) (g.gl hg) ht ⟨t,rfl⟩ (du hp).1) λσ H Q q=>?_;obtain⟨ads,M,ρ,s,q⟩:=q;rw[Iw]at q;exact bz.plain q s.mem (by unfold RD;rfl)
theorem Jb{ρ:En}{i f:Nat}{tb:List (Addr×Nat)}(h:vI ρ i tb=some f):∃a,ρ[i]?=some (some (.fn a))/\tb.lookup a=some f:=by
 unfold vI at h
 cases e:ρ[i]? with
 | none=>rw[e]at h;cases h
 | some o =>
  rw[e]at h
  cases o with
  | none=>cases h
  | some d =>
   cases d<;>first | cases h | skip
   exact⟨_,rfl,h⟩
theorem tL{a f:Nat}:∀{tb:List (Addr×Nat)},tb.lookup a=some f->(a,f)∈tb
 | [],h=>by cases h
 | (b,g)::tb,h=>by
  rw[eK]at h
  cases e:a==b with
  | true =>
   rw[e]at h;cases h;rw[eT.mp e];exact cG
  | false =>
   rw[e]at h;exact cZ _ (tL h)
theorem CA{i:Nat}{tb:List (Addr×Nat)}{cs:List C}{x:Str}{e:Expr}{es:List Expr}{p pos:Pos}(g:Good kk X cc G)(hN:cc.N[i]?=some x)(hv:Cp cc x=true)(hp:bt x=true)(hc:bU cc cs (e::es)=true)(ht:tb.all (Ui cc cs.length)=true)(ha:PA X (e::es) (AR X.K (bh G cs))):PE X (.Call (.Name x p) (e::es) [] pos) (tE X.K (ev G (.dM i tb cs))):=by
 intro pins s0 σ H Q I q;obtain⟨ads,M,ρ,s,q⟩:=q;rw[pO]at q
 cases hf:vI ρ i tb with
 | none=>rw[hf]at q;exact q.elim
 | some f =>
  rw[hf]at q;have q:bz X.K ads H Q ((bh G cs ρ M).bind λds M=>G f ds M):=q;obtain⟨a,ea,et⟩:=Jb hf;have hm:=jN.mp ht (a,f) (tL et);unfold Ui at hm
  cases hy:cc.fs[f]? with
  | none=>rw[hy]at hm;cases hm
  | some yk =>
   obtain⟨y,k⟩:=yk;rw[hy]at hm;have hm:(k==cs.length&&cc.xs.fa.contains (y,a))=true:=hm;rw[aF,eT]at hm;obtain⟨rfl,YC⟩:=hm;have YD:=g.RC y a (Bb.mp YC);obtain⟨fa,fd,ps,F,RH,hk,hb⟩:=g.fns f y _ hy
   obtain rfl:fa=a:=by
    rw[YD]at RH;have:=cH RH;cases this;rfl
   obtain⟨E,hE,im⟩:=g.ex
   have jX:az e=true/\bU cc cs.tail es=true:=by
    cases cs with
    | nil=>cases hc
    | cons c cs =>
     have h':(az e&&bB cc c e&&bU cc cs es)=true:=hc;simp only[aF]at h';exact⟨h'.1.1,h'.2⟩
   obtain⟨v,Uk,r⟩:=s.en i _ ea;obtain rfl:v=.ref fa:=by unfold RD at r;exact r
   obtain⟨d1,d2,_⟩:=du hp;refine Bg (Ja I (by rw[g.N];exact hN) (g.Cp hv) Uk (λu ru=>?_) d1 d2);obtain rfl:u=Value.ref fa:=ru;refine PySem.W.callWith_K (h₀:=X.base) I.ok.mod.Rc hk (cj (ha pos pins s0 σ H (λvs H1=>wk X.K cs.length (G f) (vs++[]) H1 Q E) I ⟨ads,M,ρ,s,?_⟩) λus s1 ⟨vs,H1,I1,r,q⟩=>⟨I1.nk,ye F g.room hb .nil hE I1 r q⟩) (bc jX.1 es X.env) (cV jX.2 X.env pos)
   cases hq:bh G cs ρ M with
   | ok ds M1 =>
    rw[hq]at q;intro vs H1 ag g1 m1 r1;refine⟨ag,M1,ds,m1,?_,lp cs ρ M ds M1 hq,bz.imp im (bz.shift (o:=G f ds M1) q g1 s.mem m1)⟩;rw[lU];exact r1
   | err _ _=>rw[hq]at q;exact q
   | aa=>rw[hq]at q;exact q
def PN(K:PySem.W.Frag)(ads:List Addr)(H:Hp)(Q:List V->Hp->Prop):bE (List W)->Prop
 | .ok ws M=>∀vs H' aq,ay ads aq H H'->aM K aq H' M->AS K aq H' ws vs->Q vs H'
 | .err x M=>EX.post K ads H x M
 | .aa=>False
def Jc(K:PySem.W.Frag)(o:En->af->bE (List W)):TA:=λσ H Q=>∃ads M ρ,SR K ads M ρ σ H/\PN K ads H Q (o ρ M)
theorem tM:PA X [] (Jc X.K (cI G [])):=RF jl λσ H Q q=>by
 obtain⟨ads,M,ρ,s,q⟩:=q;exact q [] H ads (ay.refl _ _) s.mem rfl
theorem nZ{c:C}{cs:List C}{e:Expr}{es:List Expr}(hs:az e=true)(ha:PE X e (tE X.K (ev G c)))(hr:PA X es (Jc X.K (cI G cs))):PA X (e::es) (Jc X.K (cI G (c::cs))):=by
 refine RF (d6 ha hr (bc hs es X.env)) λσ H Q q=>?_;obtain⟨ads,M,ρ,s,q⟩:=q;refine⟨ads,M,ρ,s,?_⟩;simp only[fm,d9]at q
 cases hq:ev G c ρ M with
 | ok w M1 =>
  rw[hq]at q;intro v H1 ag g1 m1 r1;refine⟨ag,M1,ρ,s.grow g1 m1,?_⟩;have q:PN X.K ads H Q ((cI G cs ρ M1).bind λds M=>.ok (w::ds) M):=q
  cases zh:cI G cs ρ M1 with
  | ok ds M3 =>
   rw[zh]at q;intro vs H3 dv g3 m3 r3;exact q (v::vs) H3 dv (g1.trans g3) m3 ⟨v,vs,rfl,g3.rw r1.rw,r3⟩
  | err _ _=>rw[zh]at q;exact EX.shift (show EX.post X.K ads H _ _ from q) g1
  | aa=>rw[zh]at q;exact q
 | err _ _=>rw[hq]at q;exact q
 | aa=>rw[hq]at q;exact q
theorem jx{b:Bi}{cs:List C}{σ:L2.St}{H:Hp}{Q:VK}(q:tE X.K (ev G (.bi b cs)) σ H Q):S9 (FL X.K b) (Jc X.K (cI G cs)) σ H Q:=by
 obtain⟨ads,M,ρ,s,q⟩:=q;refine⟨ads,M,ρ,s,?_⟩;simp only[y0]at q
 cases hq:cI G cs ρ M with
 | ok ws M1 =>
  rw[hq]at q;intro vs H1 ag g1 m1 r1;exact⟨ag,M1,ws,m1,r1,bz.shift (o:=ja b ws M1) q g1 s.mem m1⟩
 | err _ _=>rw[hq]at q;exact q
 | aa=>rw[hq]at q;exact q
theorem Um{b:Bi}{cs:List C}{x:Str}{e:Expr}{es:List Expr}{p pos:Pos}(g:Good kk X cc G)(hb:Pr b=true)(hx:x=zc b)(hg:glob cc x=true)(hs:az e=true)(hc:bU cc cs.tail es=true)(ha:PA X (e::es) (Jc X.K (cI G cs))):PE X (.Call (.Name x p) (e::es) [] pos) (tE X.K (ev G (.bi b cs))):=by
 have tP:=g.gl hg;have jX:=bc hs es X.env;have sQ:=cV hc X.env pos;have hm:X.mg x=none:=g.blt x (by subst hx;cases b<;>first | (show _∈cD;decide +kernel) | (cases hb));subst hx
 cases b with
 | len=>exact eQ (kx IF tP hm boot_len ha ⋯ ⋯ jX sQ) λσ H Q q=>jx q
 | max2=>cases hb
 | min2=>cases hb
 | s_=>cases hb
 | kK=>exact eQ (gy IH tP hm ⋯ ha ⋯ ⋯ jX sQ) λσ H Q q=>jx q
 | list1=>exact eQ (gy Cm tP hm ⋯ ha ⋯ ⋯ jX sQ) λσ H Q q=>jx q
 | tuple1=>exact eQ (gy y_ tP hm ⋯ ha ⋯ ⋯ jX sQ) λσ H Q q=>jx q
 | tf=>cases hb
 | all1=>exact eQ (kx (IG g.calm) tP hm boot_all ha ⋯ ⋯ jX sQ) λσ H Q q=>jx q
 | B6=>cases hb
 | i_ t=>cases hb
 | str1=>exact eQ (gy II tP hm ⋯ ha ⋯ ⋯ jX sQ) λσ H Q q=>jx q
 | tj=>cases hb
 | min1=>cases hb
 | B7=>cases hb
theorem Uo{y:Str}{T:String}{pos:Pos}(hg:Gl X y)(hm:X.mg y=none)(hv:bootBuiltins y=some (.type T)) (hn:y≠ "__name__") (hd:(y==("__debug__" : Str))=false):PE X (.Name y pos) (tC (.ty T)) :=
 Bs hg hm hv rfl hn hd
theorem PQ{t:Ty}{c:C}{x y:Str}{e:Expr}{p py pos:Pos}(g:eE kk X cc G) (hx:x = "isinstance") (YE:glob cc x=true) (hy:y=Str.ofString (pS t)) (YF:glob cc y=true) (ht:t≠.none) (hs:az e=true) (ha:PE X e (tE X.K (ev G c))):PE X (.Call (.Name x p) [e,.Name y py] [] pos) (tE X.K (ev G (.bi (.i_ t) [c]))):=by
 have YG:X.mg x=none:=g.blt x (by subst hx;show _∈cD;decide +kernel);have YH:X.mg y=none:=g.blt y (by subst hy;cases t<;>first | exact absurd rfl ht | (show _∈cD;decide +kernel))
 have YI:PE X (.Name y py) (tC (.ty (pS t))):=by
  subst hy;cases t<;>first | exact absurd rfl ht | exact Uo (g.gl YF) YH ⋯ ⋯ ⋯
 have tP:=g.gl YE;subst hx;refine eQ (kx (IK t) tP YG boot_isinstance (d6 ha (d6 YI jl) (bc hs _ X.env)) ⋯ ⋯ (bc hs _ X.env) rfl) λσ H Q q=>?_;obtain⟨ads,M,ρ,s,q⟩:=q;refine⟨ads,M,ρ,s,?_⟩;simp only[y0,fm,d9]at q
 cases hq:ev G c ρ M with
 | ok w M1 =>
  rw[hq]at q;intro v H1 ag g1 m1 r1;exact⟨v,rfl,ag,M1,[w],m1,⟨v,[],rfl,r1.rw,rfl⟩,bz.shift (o:=ja (.i_ t) [w] M1) q g1 s.mem m1⟩
 | err _ _=>rw[hq]at q;exact q
 | aa=>rw[hq]at q;exact q
theorem gz{e:Expr}(h:eC e=true)(n:Str)(env:Env)(wh:Sem Value):attributeBase e n env wh=wh:=by
 cases e<;>first | rfl | skip
 rename_i f args eD pos
 cases f<;>first | rfl | skip
 cases args<;>first | rfl | skip
 cases eD<;>first | rfl | exact absurd (show false=true from h) aI
theorem rO{m:Me}{o:C}{cs:List C}{σ:L2.St}{H:Hp}{Q:VK}(q:tE X.K (ev G (.me m o cs)) σ H Q):Th X.K "list" (Po X.K m) (tE X.K (ev G o)) (AR X.K (bh G cs)) σ H Q:=by
 obtain⟨ads,M,ρ,s,q⟩:=q;have q:bz X.K ads H Q ((ev G o ρ M).bind λx M=>if (eu M x).isSome then (bh G cs ρ M).bind λds M=>oJ m x ds M else .aa):=by simp only[y1]at q;exact q
 refine cJ s q λw M1 v H1 ag s1 kX q1=>?_;split at q1
 ·rename_i hs
  obtain⟨es,he⟩:=uD.mp hs;obtain⟨a,xs,rfl,rd,ha⟩:=kY s1.mem kX he;refine⟨.inl ⟨rfl,xs,eF.of ha⟩,ag,M1,ρ,s1,?_⟩
  cases hq:bh G cs ρ M1 with
  | ok ds M2 =>
   rw[hq]at q1;intro vs H2 aX g2 m2 r2;exact⟨aX,M2,w,ds,m2,g2.rw kX,r2,bz.shift (o:=oJ m w ds M2) q1 g2 s1.mem m2⟩
  | err _ _=>rw[hq]at q1;exact q1
  | aa=>rw[hq]at q1;exact q1
 ·exact q1.elim
theorem n_{m:Me}{o:C}{σ:L2.St}{H:Hp}{Q:VK}(q:tE X.K (ev G (.me m o [])) σ H Q):OH X.K "list" (Po X.K m) (tE X.K (ev G o)) σ H Q:=by
 obtain⟨ads,M,ρ,s,q⟩:=q;have q:bz X.K ads H Q ((ev G o ρ M).bind λx M=>if (eu M x).isSome then (bh G [] ρ M).bind λds M=>oJ m x ds M else .aa):=by simp only[y1]at q;exact q
 refine cJ s q λw M1 v H1 ag s1 kX q1=>?_;split at q1
 ·rename_i hs
  obtain⟨es,he⟩:=uD.mp hs;obtain⟨a,xs,rfl,rd,ha⟩:=kY s1.mem kX he;exact⟨.inl ⟨rfl,xs,eF.of ha⟩,ag,M1,w,[],s1.mem,kX,(by unfold aH;rfl),q1⟩
 ·exact q1.elim
theorem rP{cs:List C}{es:List Expr}(h:bU cc cs es=true)(hl:es.length<20)(env:Env)(ir:Pos):((backTo ir (starEach es env)).all (λx=>!x.1)&&(backToKw ir (keywordEach [] env)).all (λx=>x.1.isSome)&&decide (es.length+([]:List Keyword).length+(if ([]:List Keyword).isEmpty then 0 else 1)<30))=true:=by
 have h1:=cV h env ir
 have h2:(backTo ir (starEach es env)).all (λx=>!x.1)=true:=by
  rw[jN];intro x hx;rw[GC]at h1;have:=h1 x hx;simpa using this
 rw[h2];simp[keywordEach,backToKw];omega
theorem tQ:∀{xs:List Str}{ar:List Value},aE (xs.map V.str) ar->∃l:List (Str×Tok),ar=strValues l/\l.map (·.1)=xs
 | [],ar,r=>by cases r;exact⟨[],rfl,rfl⟩
 | x::xs,ar,r=>by
  cases r with
  | cons h r =>
   obtain⟨t,rfl⟩:=h;obtain⟨l,rfl,e⟩:=tQ r;exact⟨(x,t)::l,rfl,jP (x::·) e⟩
theorem CB:BQ X "str.join" (λx xs H Q=>∃cS a ss,x=.str cS/\xs=[.ref a]/\H a=some (.lst (ss.map V.str))/\Builtin.Str.tooLong (ss.toArray.foldl (λa b=>a+b.length+cS.length) 0)=false/\(jI cS ss).length<=sizeLine/\Q (.str (jI cS ss)) H):=by
 intro pins s σ H x xs v us Q I rx rv h;obtain⟨cS,a,ss,rfl,rfl,ha,hl,hz,q⟩:=h;obtain⟨t,rfl⟩:=rx;obtain⟨u,rfl,ru⟩:=vals1 rv;obtain rfl:u=Value.ref a:=ru;obtain⟨_,ar,n,r,e⟩:=I.bY a _ ha;obtain⟨l,rfl,rfl⟩:=tQ r;refine jf F.slot_str_join rfl F.entry_str_join (F.args_str_join_2 _ _) (meets_str_join_list cS t a l hl) ⟨⟨_,e,rfl,n,rfl⟩,?_⟩
 have fin:∀{k:Made},k=joinMade cS l->(∀p,l≠[p])->(Made.str (Builtin.Str.glued cS (l.map (·.1)))).post (λv s'=>wants (EP X pins σ Q) X.xe (.ok (.ret v)) s') s:=λ_ hn=>by
  have ej:jI cS (l.map (·.1))=Builtin.Str.glued cS (l.map (·.1)):=by
   rcases l with _|⟨p,_|⟨p2,l⟩⟩
   ·rfl
   ·exact absurd rfl (hn p)
   ·rfl
  rw[ej]at hz q;rw[Made.post.eq_3];exact⟨hz,.str _,H,I.tok _,⟨_,rfl⟩,q⟩
 rcases l with _|⟨p,_|⟨p2,l⟩⟩
 ·exact fin rfl λp=>by intro z;cases z
 ·exact⟨.str _,H,I,⟨_,rfl⟩,q⟩
 ·exact fin rfl λp=>by intro z;cases z
theorem tR{K:PySem.W.Frag}{ads:List Addr}{H:Hp}:∀{ds:List D}{ss:List Str}{xs:List V},kQ ds=some ss->aH K ads H ds xs->xs=ss.map V.str
 | [],ss,xs,e,r=>by
  cases e;unfold aH at r;exact r
 | d::ds,ss,xs,e,r=>by
  cases d<;>first | cases e | skip
  rename_i x
  have e:(kQ ds).map (x::·)=some ss:=e;obtain⟨ss',e',rfl⟩:=Gw.mp e;unfold aH at r;obtain⟨v,r',rfl,h1,h2⟩:=r;unfold RD at h1;rw[h1,tR e' h2];rfl
theorem PR{cS:Str}{a:C}{o x:Expr}{n:Str}{ap cp:Pos} (hn:n = "join") (hl:(ap.endLine==cp.line)=true) (h0:eC o=true) (ho:hZ (.str cS) o=true) (hx:az x=true) (YJ:bB cc a x=true) (ha:PE X x (tE X.K (ev G a))):PE X (.Call (.Attribute o n ap) [x] [] cp) (tE X.K (ev G (.vG cS a))):=by
 have RI:=gz h0 n X.env (eval o X.env)
 have hc:bU cc [a] [x]=true:=by
  show(az x&&bB cc a x&&true)=true;rw[hx,YJ];rfl
 have l0:=rP hc (show 1<20 by decide) X.env cp;subst hn;have hs:PE X o (tE X.K (ev G (.a8 (.str cS)))):=FQ (cc:=cc) ho;refine eQ (mB F.plainAttrs_str F.slot_str_join F.type_str_join CB hs (nZ hx ha tM) RI l0 hl (bc hx [] X.env) rfl) λσ H Q q=>?_;obtain⟨ads,M,ρ,s,q⟩:=q
 have q:bz X.K ads H Q ((ev G (.a8 (.str cS)) ρ M).bind λx M=>match x with
  | .d (.str z)=>(ev G a ρ M).bind λy M=>kR z y M
  | _=>.aa):=q
 refine cJ s q λw M1 v H1 ag s1 kX q1=>?_;rcases w with⟨_|_|_ | z | _|_|_⟩|_<;>first | exact q1.elim | skip
 have e1:=bT kX;subst e1;refine⟨rfl,ag,M1,ρ,s1,?_⟩;simp only[fm,d9];have q1:bz X.K ag H1 Q ((ev G a ρ M1).bind λy M=>kR z y M):=q1
 cases hq:ev G a ρ M1 with
 | ok y M2 =>
  rw[hq]at q1;intro vs H2 aX g2 m2 r2;obtain⟨v2,rfl,PU⟩:=AS.one r2;have q1:bz X.K ag H1 Q (kR z y M2):=q1
  cases y with
  | d x=>exact q1.elim
  | lv ds =>
   obtain⟨p,xs,rfl,hp,_,rd⟩:=PU;unfold kR at q1;dsimp only at q1
   cases es:kQ ds with
   | none=>rw[es]at q1;exact q1.elim
   | some ss =>
    rw[es]at q1;dsimp only at q1;by_cases hc:Builtin.Str.tooLong (ss.toArray.foldl (λa b=>a+b.length+z.length) 0)=false/\(jI z ss).length<=sizeLine
    ·rw[aG hc]at q1;obtain rfl:=tR es rd;exact⟨z,p,ss,rfl,rfl,hp,hc.1,hc.2,bz.plain (bz.shift (o:=.ok (.d (.str (jI z ss))) M2) q1 g2 s1.mem m2) m2 (eA _)⟩
    ·rw[aT hc]at q1;exact q1.elim
 | err _ _=>rw[hq]at q1;exact q1
 | aa=>rw[hq]at q1;exact q1
theorem mM:∀(t:Nat)(xs:List Str),aE (xs.map V.str) (strsFrom t xs)
 | _,[]=>.nil
 | t,x::xs=>by
  rw[strsFrom.eq_2];exact .cons ⟨_,rfl⟩ (mM _ xs)
theorem vR{α:Type}{P:α->Prop}{c d:Bool}{x y z:α}(h1:c=true->P x)(h2:c=false->d=true->P y)(h3:c=false->d=false->P z):P (if c=true then x else if d=true then y else z):=by
 cases c with
 | true=>rw[aG rfl];exact h1 rfl
 | false =>
  rw[aT aI]
  cases d with
  | true=>rw[aG rfl];exact h2 rfl rfl
  | false=>rw[aT aI];exact h3 rfl rfl
theorem zl:BQ X "str.split" (λx xs H Q=>∃a b,x=.str a/\xs=[.str b]/\(b.length==0)=false/\a.length<=sizeLine/\(Txt.split a b).length<=sizeLine/\∀p,H p=none->Q (.ref p) (bH H p (.lst ((Txt.split a b).map V.str)))):=by
 intro pins s σ H x xs v us Q I rx rv h;obtain⟨a,b,rfl,rfl,h0,ha,hl,q⟩:=h;obtain⟨t,rfl⟩:=rx;obtain⟨u,rfl,t',rfl⟩:=vals1 rv
 have fin:∀(l:List Str),l.length<=sizeLine->(∀p,H p=none->Q (.ref p) (bH H p (.lst (l.map V.str))))->∀(ar:List Value)(tk:Nat),aE (l.map V.str) ar->EP X pins σ Q (.ref s.heap.objs.size) {s with heap:=s.heap.push {cls:=.type "list",data:=.seq ar.toArray},toks:=tk}:=λl hl q ar tk hv =>
  ⟨.ref s.heap.objs.size,_,I.laid (t':=tk) (o:=.lst (l.map V.str)) (λb ob q=>bQ _ q) (a7 _) ⟨by rw[aR];exact hl,ar,_,hv,d5 _ rfl⟩,rfl,q _ (I.bY.fresh (a7 _))⟩
 revert hl q;unfold Txt.split
 exact vR (P:=λ(l:List Str)=>l.length<=sizeLine->(∀p,H p=none->Q (.ref p) (bH H p (.lst (l.map V.str))))->wpAny (model X.prog X.w) X.A (call (.builtin "str.split") [.str a t,.str b t']) (EP X pins σ Q) X.xe s)
  (λc1 hl q=>jf Bl rfl F.entry_str_split (F.args_str_split_2 _ _) (meets_str_split_cannot_occur a b t t' c1) (fin _ hl q [.str a t] s.toks (.cons ⟨_,rfl⟩ .nil)))
  (λc1 c3 hl q=>jf Bl rfl F.entry_str_split (F.args_str_split_2 _ _) (meets_str_split_not_found a b t t' c1 h0 c3) (fin _ hl q [.str a t] s.toks (.cons ⟨_,rfl⟩ .nil)))
  (λc1 c3 hl q=>jf Bl rfl F.entry_str_split (F.args_str_split_2 _ _) (meets_str_split_sep a b t t' c1 h0 c3 ha hl) (fin _ hl q _ _ (mM _ _)))
theorem CD:BQ X "str.partition" (λx xs H Q=>∃a b,x=.str a/\xs=[.str b]/\(b.length==0)=false/\a.length<=sizeLine/\∀p,H p=none->Q (.ref p) (bH H p (.tup [.str (Txt.partition a b).1,.str (Txt.partition a b).2.1,.str (Txt.partition a b).2.2]))):=by
 intro pins s σ H x xs v us Q I rx rv h;obtain⟨a,b,rfl,rfl,h0,ha,q⟩:=h;obtain⟨t,rfl⟩:=rx;obtain⟨u,rfl,t',rfl⟩:=vals1 rv
 have fin:∀(x y z:Str)(t1 t2 t3 tk:Nat),Txt.partition a b=(x,y,z)->EP X pins σ Q (.ref s.heap.objs.size) {s with heap:=s.heap.push {cls:=.type "tuple",data:=.seq #[.str x t1,.str y t2,.str z t3]},toks:=tk}:=λx y z t1 t2 t3 tk e=>by
  rw[e]at q;exact⟨.ref s.heap.objs.size,_,I.laid (t':=tk) (o:=.tup [.str x,.str y,.str z]) (λb ob q=>bQ _ q) (a7 _) ⟨bj rfl,[.str x t1,.str y t2,.str z t3],.cons ⟨_,rfl⟩ (.cons ⟨_,rfl⟩ (.cons ⟨_,rfl⟩ .nil)),IsTup.new _ _⟩,rfl,q _ (I.bY.fresh (a7 _))⟩
 refine jf F.slot_str_partition rfl F.entry_str_partition (F.args_str_partition_2 _ _) (meets_str_partition a b t t' h0 ha) ?_;unfold Txt.partition at fin
 cases e:Builtin.Str.occurrences a b 0 a.length 1 with
 | nil=>rw[e]at fin;exact fin _ _ _ _ _ _ _ rfl
 | cons i tl=>rw[e]at fin;exact fin _ _ _ _ _ _ _ rfl
theorem pY{K:PySem.W.Frag}{ads:List Addr}{H:Hp}:∀xs:List Str,aH K ads H (xs.map D.str) (xs.map V.str)
 | []=>by
  show aH K ads H [] [];unfold aH;rfl
 | x::xs=>by
  show aH K ads H (D.str x::xs.map D.str) _;unfold aH;exact⟨_,_,rfl,eA _,pY xs⟩
theorem PV{pt:Bool}{a b:C}{e x:Expr}{n:Str}{ap cp:Pos} (hn:n=if pt=true then ("partition" : Str) else "split") (hl:(ap.endLine==cp.line)=true) (h0:eC e=true) (hx:az x=true) (YK:bB cc b x=true) (ho:PE X e (tE X.K (ev G a))) (hb:PE X x (tE X.K (ev G b))):PE X (.Call (.Attribute e n ap) [x] [] cp) (tE X.K (ev G (.pH pt a b))):=by
 have RI:=gz h0 n X.env (eval e X.env)
 have hc:bU cc [b] [x]=true:=by
  show(az x&&bB cc b x&&true)=true;rw[hx,YK];rfl
 have l0:=rP hc (show 1<20 by decide) X.env cp
 have mE:∀(σ:L2.St)(H:Hp)(Q:VK)(r:V->List V->Hp->VK->Prop),(∀(z y:Str)(aX:List Addr)(H2:Hp)(M2:af),aM X.K aX H2 M2->bz X.K aX H2 Q (gK pt (.d (.str z)) (.d (.str y)) M2)->r (.str z) [.str y] H2 Q)->tE X.K (ev G (.pH pt a b)) σ H Q->Th X.K "str" r (tE X.K (ev G a)) (Jc X.K (cI G [b])) σ H Q:=λσ H Q r hk q=>by
  obtain⟨ads,M,ρ,s,q⟩:=q
  have q:bz X.K ads H Q ((ev G a ρ M).bind λx M=>match x with
   | .d (.str z)=>(ev G b ρ M).bind λy M=>gK pt (.d (.str z)) y M
   | _=>.aa):=q
  refine cJ s q λw M1 v H1 ag s1 kX q1=>?_;rcases w with⟨_|_|_ | z | _|_|_⟩|_<;>first | exact q1.elim | skip
  have e1:=bT kX;subst e1;refine⟨rfl,ag,M1,ρ,s1,?_⟩;simp only[fm,d9];have q1:bz X.K ag H1 Q ((ev G b ρ M1).bind λy M=>gK pt (.d (.str z)) y M):=q1
  cases hq:ev G b ρ M1 with
  | ok y M2 =>
   rw[hq]at q1;intro vs H2 aX g2 m2 r2;obtain⟨v2,rfl,PU⟩:=AS.one r2;have q1:bz X.K ag H1 Q (gK pt (.d (.str z)) y M2):=q1;rcases y with⟨_|_|_ | y | _|_|_⟩|_<;>first | exact q1.elim | skip
   have e2:=bT PU;subst e2;exact hk z y aX H2 M2 m2 (bz.shift (o:=gK pt (.d (.str z)) (.d (.str y)) M2) q1 g2 s1.mem m2)
  | err _ _=>rw[hq]at q1;exact q1
  | aa=>rw[hq]at q1;exact q1
 cases pt with
 | true =>
  subst hn;refine eQ (mB F.plainAttrs_str F.slot_str_partition F.type_str_partition CD ho (nZ hx hb tM) RI l0 hl (bc hx [] X.env) rfl) λσ H Q q=>mE σ H Q _ (λz y aX H2 M2 m2 h=>?_) q;unfold gK at h;dsimp only at h;by_cases c:(y.length==0)=false/\z.length<=sizeLine/\(Txt.split z y).length<=sizeLine
  ·rw[aG c]at h;exact⟨z,y,rfl,rfl,c.1,c.2.1,λp hp=>bz.tuple h m2 (ds:=[.str (Txt.partition z y).1,.str (Txt.partition z y).2.1,.str (Txt.partition z y).2.2]) (by unfold aH;exact⟨_,_,rfl,eA _,by unfold aH;exact⟨_,_,rfl,eA _,by unfold aH;exact⟨_,_,rfl,eA _,by unfold aH;rfl⟩⟩⟩) hp⟩
  ·rw[aT c]at h;exact h.elim
 | false =>
  subst hn;refine eQ (mB F.plainAttrs_str Bl F.type_str_split zl ho (nZ hx hb tM) RI l0 hl (bc hx [] X.env) rfl) λσ H Q q=>mE σ H Q _ (λz y aX H2 M2 m2 h=>?_) q;unfold gK at h;dsimp only at h;by_cases c:(y.length==0)=false/\z.length<=sizeLine/\(Txt.split z y).length<=sizeLine
  ·rw[aG c]at h;exact⟨z,y,rfl,rfl,c.1,c.2.1,c.2.2,λp hp=>bz.list h m2 (pY _) hp⟩
  ·rw[aT c]at h;exact h.elim
noncomputable def CF(v:V)(p:Str):Prop:=(v=.str p\/∃i:Int,v=.int i/\i.natAbs.log2<1920/\p=Str.ofString (toString i))/\p.length<=sizeLine
theorem zm{K:PySem.W.Frag}{ads:List Addr}{H:Hp}{w:W}{v:V}{p:Str}(r:RW K ads H w v)(h:Lk w=some p)(hp:p.length<=sizeLine):CF v p:=by
 rcases w with⟨_|_ | i | z | _|_|_⟩|_<;>first | (cases h;done) | skip
 ·have h:(if i.natAbs.log2<1920 then some (Str.ofString (toString i)) else none)=some p:=h;by_cases c:i.natAbs.log2<1920
  ·rw[aG c]at h;cases h;exact⟨.inr ⟨i,aY r,c,rfl⟩,hp⟩
  ·rw[aT c]at h;cases h
 ·cases h;exact⟨.inl (bT r),hp⟩
theorem zo{pins:List (Addr×Obj)}{σ:L2.St}{H:Hp}{s:Shared}{v:V}{u:Value}{p:Str}{Q:Value->Shared->Prop}{E:Value->Shared->Prop}(h:CF v p)(r:RelV v u)(k:∀t tk,Q (.str p t) {s with toks:=tk}):wpAny (model X.prog X.w) X.A (formatField u Str.empty) Q E s:=by
 obtain⟨h,hp⟩:=h;rcases h with rfl | ⟨i,rfl,hi,rfl⟩
 ·obtain⟨t,rfl⟩:=r;exact formatField_str (λt' tk=>k t' tk) hp
 ·obtain⟨t,rfl⟩:=r;exact formatField_int_small hi (k _ _)
theorem Jd{lit:Str}{e:Expr}(h:hZ (.str lit) e=true):∀(s:Shared)(Q E:Value->Shared->Prop),(∀t tk,Q (.str lit t) {s with toks:=tk})->wpAny (model X.prog X.w) X.A (eval e X.env) Q E s:=by
 rcases(wG _ _).mp h with h | h
 ·refine cu (P:=λe=>∀(s:Shared)(Q E:Value->Shared->Prop),(∀t tk,Q (.str lit t) {s with toks:=tk})->wpAny (model X.prog X.w) X.A (eval e X.env) Q E s) h λc j p h s Q E k=>?_;cases c<;>first | exact absurd h aI | skip
  have h:_=true:=h;obtain rfl:=eq_of_beq h;exact Calls.Constant_str (k _ _)
 ·refine d7 (P:=λe=>∀(s:Shared)(Q E:Value->Shared->Prop),(∀t tk,Q (.str lit t) {s with toks:=tk})->wpAny (model X.prog X.w) X.A (eval e X.env) Q E s) h λop x p h=>?_;have h:=((aF _ _).mp h).2;refine cu (P:=λ_=>∀(s:Shared)(Q E:Value->Shared->Prop),(∀t tk,Q (.str lit t) {s with toks:=tk})->wpAny (model X.prog X.w) X.A (eval (.UnaryOp op x p) X.env) Q E s) h λc j p h=>?_;cases c<;>exact absurd h aI
theorem PX{lit:Str}{a b:C}{e1 e3 v2:Expr}{p1 p3 pos:Pos}(h2:hZ (.str lit) v2=true)(ha:PE X e1 (tE X.K (ev G a)))(hb:PE X e3 (tE X.K (ev G b))):PE X (.JoinedStr [.FormattedValue e1 (-1) none p1,v2,.FormattedValue e3 (-1) none p3] pos) (tE X.K (ev G (.wj lit a b))):=by
 intro pins s σ H Q I q;obtain⟨ads,M,ρ,sr,q⟩:=q;rw[y3]at q;refine JoinedStr_many (joinParts_cons (FormattedValue_plain (cj (ha pins s σ H (λv H1=>∃p,CF v p/\(Str.empty++p).length<=sizeLine/\(Str.empty++p++lit).length<=sizeLine/\tE X.K (λρ M=>(ev G b ρ M).bind λy M=>FF lit p y M) σ H1 Q) I (cJ sr q λw M1 v H1 ag s1 kX q1=>?_)) λu s1 ⟨v,H1,I1,r1,p,tv,c1,c2,q1⟩=>zo (pins:=pins) (σ:=σ) (H:=H1) tv r1 λt tk=>⟨c1,joinParts_cons (Jd h2 _ _ _ λt2 tk2=>⟨c2,joinParts_consE (joinParts_cons (FormattedValue_plain ?_))⟩)⟩)))
 ·cases e:Cc lit w with
  | none=>rw[e]at q1;exact q1.elim
  | some p =>
   rw[e]at q1;unfold Cc at e;obtain⟨p',e1,e2⟩:=Option.bind_eq_some_iff.mp e;by_cases c:(Str.empty++p').length<=sizeLine/\(Str.empty++p'++lit).length<=sizeLine/\p'.length<=sizeLine
   ·rw[aG c]at e2;cases e2;exact⟨p,zm kX e1 c.2.2,c.1,c.2.1,ag,M1,ρ,s1,q1⟩
   ·rw[aT c]at e2;cases e2
 ·obtain⟨ag,M1,Je,YL,q1⟩:=q1;refine cj (hb pins _ σ H1 (λv H2=>∃r,CF v r/\(Str.empty++p++lit++r).length<=sizeLine/\Q (.str (Str.empty++p++lit++r)) H2) (I1.tok _) (cJ YL q1 λw M2 v H2 aX s2 O0 q2=>?_)) λu s2 ⟨v,H2,I2,r2,r,tv,c3,q2⟩=>zo (pins:=pins) (σ:=σ) (H:=H2) tv r2 λt tk=>⟨c3,joinParts_nilE (joinParts_nil ⟨.str _,H2,I2.tok _,⟨_,rfl⟩,q2⟩ c3)⟩;unfold FF at q2
  cases e:Lk w with
  | none=>rw[e]at q2;exact q2.elim
  | some r =>
   rw[e]at q2;dsimp only at q2;by_cases c:(Str.empty++p++lit++r).length<=sizeLine/\r.length<=sizeLine
   ·rw[aG c]at q2;exact⟨r,zm O0 e c.2,c.1,bz.plain q2 s2.mem (eA _)⟩
   ·rw[aT c]at q2;exact q2.elim
theorem Up{m:Me}{o:C}{cs:List C}{e:Expr}{es:List Expr}{n:Str}{ap cp:Pos}(hu:X.A.units+100<cLine)(hn:n=zd m)(hm:Pq m=true)(hl:(ap.endLine==cp.line)=true)(h0:eC e=true)(hc:bU cc cs es=true)(bS:es.length<20)(ho:PE X e (tE X.K (ev G o)))(ha:PA X es (AR X.K (bh G cs))):PE X (.Call (.Attribute e n ap) es [] cp) (tE X.K (ev G (.me m o cs))):=by
 have hb:=gz h0 n X.env (eval e X.env);subst hn
 cases es with
 | nil =>
  cases cs with
  | cons _ _=>cases hc
  | nil =>
   cases m with
   | append=>exact eQ (rg uM F.slot_list_append F.type_list_append mI ho hb hl) λσ H Q q=>n_ q
   | insert=>exact eQ (rg uM F.slot_list_insert F.type_list_insert mJ ho hb hl) λσ H Q q=>n_ q
   | reverse=>cases hm
   | extend=>cases hm
   | remove=>cases hm
   | pop=>cases hm
   | clear=>exact eQ (rg uM F.slot_list_clear F.type_list_clear pT ho hb hl) λσ H Q q=>n_ q
 | cons e1 es =>
  have jX:az e1=true/\bU cc cs.tail es=true:=by
   cases cs with
   | nil=>cases hc
   | cons c cs =>
    have h':(az e1&&bB cc c e1&&bU cc cs es)=true:=hc;simp only[aF]at h';exact⟨h'.1.1,h'.2⟩
  have l0:=rP hc bS X.env cp
  cases m with
  | append=>exact eQ (mB uM F.slot_list_append F.type_list_append mI ho ha hb l0 hl (bc jX.1 es X.env) (cV jX.2 X.env cp)) λσ H Q q=>rO q
  | insert=>exact eQ (mB uM F.slot_list_insert F.type_list_insert mJ ho ha hb l0 hl (bc jX.1 es X.env) (cV jX.2 X.env cp)) λσ H Q q=>rO q
  | reverse=>cases hm
  | extend=>cases hm
  | remove=>cases hm
  | pop=>cases hm
  | clear=>exact eQ (mB uM F.slot_list_clear F.type_list_clear pT ho ha hb l0 hl (bc jX.1 es X.env) (cV jX.2 X.env cp)) λσ H Q q=>rO q
theorem PY{x:Str}{v:Int}{pos:Pos}(g:eE kk X cc G)(hg:glob cc x=true)(hp:bt x=true)(hl:cc.gs.lookup x=some v):PE X (.Name x pos) (tE X.K (ev G (.vF x v))):=by
 obtain⟨t,ht⟩:=g.Uj x v hl;refine eQ (ny (v:=.int v) (g.gl hg) ht ⟨t,rfl⟩ (du hp).1) λσ H Q q=>?_;obtain⟨ads,M,ρ,s,q⟩:=q;exact bz.plain q s.mem (cQ _)
theorem cf.lookup{K:PySem.W.Frag}{ads:List Addr}{H:Hp}{f:Str}{d:D}:∀{xs:List (Str×D)}{ys:List (Str×V)},cf K ads H xs ys->xs.lookup f=some d->∃v,ys.lookup f=some v/\RD K ads H d v
 | [],_,_,e=>nomatch e
 | p::xs,ys,h,e=>by
  unfold cf at h;obtain⟨x,r,rfl,h0,h1,h2⟩:=h;obtain⟨a,b⟩:=p;obtain⟨a',v⟩:=x;obtain rfl:a=a':=h0;by_cases q:f=a
  ·subst q;simp only[eK,jc]at e⊢;cases e;exact⟨v,rfl,h1⟩
  ·have q:(f==a)=false:=by simpa using q
   simp only[eK,q]at e⊢;exact cf.lookup h2 e
end
end
section
variable [EX]
section
variable {kk:Nat} {X:Cx} {cc:CC} {G:bo}
structure TF (H H':Hp):Prop where
 tup:O7 H H'
 fP:∀b o u,H b=some (.fP o u)->H' b=some (.fP o u)
 xd:∀b gs,H b=some (.xd gs)->H' b=some (.xd gs)
theorem TF.i9{K:PySem.W.Frag}{H H':Hp}(t:TF H H'){a:Addr}{xs:List V}(h:pF K H a xs):pF K H' a xs:=by
 rcases h with⟨o,h⟩ | h
 ·exact .inl ⟨o,t.fP _ _ _ h⟩
 ·exact .inr h
mutual
theorem RD.keep{K:PySem.W.Frag}{ads:List Addr}{H H':Hp}(t:TF H H'):∀(d:D)(v:V),RD K ads H d v->RD K ads H' d v
 | .ba,_,h=>by unfold RD at *;exact h
 | .bl _,_,h=>by unfold RD at *;exact h
 | .int _,_,h=>by unfold RD at *;exact h
 | .str _,_,h=>by unfold RD at *;exact h
 | .aB n,v,h=>by unfold RD at *;exact h
 | .tup ds,v,h=>by unfold RD at *;obtain⟨a,xs,e,h,r⟩:=h;exact⟨a,xs,e,t.tup _ _ h,aH.keep t ds xs r⟩
 | .ls ds,v,h=>by unfold RD at *;obtain⟨a,xs,e,h,r⟩:=h;exact⟨a,xs,e,t.i9 h,aH.keep t ds xs r⟩
 | .fn _,_,h=>by unfold RD at *;exact h
 | .tg ds,v,h=>by unfold RD at *;obtain⟨a,xs,e,h,r⟩:=h;exact⟨a,xs,e,h,aH.keep t ds xs r⟩
theorem aH.keep{K:PySem.W.Frag}{ads:List Addr}{H H':Hp}(t:TF H H'):∀(ds:List D)(vs:List V),aH K ads H ds vs->aH K ads H' ds vs
 | [],_,h=>by unfold aH at *;exact h
 | d::ds,vs,h=>by unfold aH at *;obtain⟨x,r,e,h1,h2⟩:=h;exact⟨x,r,e,RD.keep t d x h1,aH.keep t ds r h2⟩
end
theorem cf.keep{κ:Type}{K:PySem.W.Frag}{ads:List Addr}{H H':Hp}(t:TF H H'):∀(ds:List (κ×D))(vs:List (κ×V)),cf K ads H ds vs->cf K ads H' ds vs
 | [],_,h=>by unfold cf at *;exact h
 | d::ds,vs,h=>by unfold cf at *;obtain⟨x,r,e,h0,h1,h2⟩:=h;exact⟨x,r,e,h0,RD.keep t d.2 x.2 h1,cf.keep t ds r h2⟩
theorem aM.keep{K:PySem.W.Frag}{ads:List Addr}{H H':Hp}{M:af}(m:aM K ads H M)(t:TF H H')(k:∀a∈ads,H' a=H a):aM K ads H' M:=⟨m.nd,m.len,λn o a e1 e2=>by
 have h:=m.obj n o a e1 e2;have ha:=k a (cT e2)
 cases o with
 | lst ds=>obtain⟨xs,h,r⟩:=h;exact⟨xs,ha.trans h,aH.keep t _ _ r⟩
 | i9 ds=>obtain⟨o,xs,h,r⟩:=h;exact⟨o,xs,ha.trans h,aH.keep t _ _ r⟩
 | dK ds=>obtain⟨xs,h,r⟩:=h;exact⟨xs,ha.trans h,cf.keep t _ _ r⟩
 | dT ds=>obtain⟨xs,h,r⟩:=h;exact⟨xs,ha.trans h,cf.keep t _ _ r⟩
 | dF ds=>obtain⟨o,xs,h,r⟩:=h;exact⟨o,xs,ha.trans h,cf.keep t _ _ r⟩
 | dG ds=>obtain⟨o,xs,h,r⟩:=h;exact⟨o,xs,ha.trans h,cf.keep t _ _ r⟩
 | xc C ds=>exact h.elim⟩
theorem iK:∀(ao aA:List (bZ×V)),(aA.map (·.1)++ao.map (·.1)).Nodup->eV aA ao=aA++ao
 | [],aA,_=>by simp[eV]
 | p::ps,aA,h=>by
  have hn:¬p.1∈aA.map (·.1):=by
   intro hm;rw[List.nodup_append]at h;exact h.2.2 _ hm _ (by simp) rfl
  have ha:(aA.any λkv=>decide (kv.1=p.1))=false:=by
   rw[GC];intro x hx;simp only[oQ];exact λe=>hn (e▸List.mem_map_of_mem hx)
  have e:eV aA (p::ps)=eV (aA++[p]) ps:=by
   show eV (eL aA p.1 p.2) ps=_;unfold eL;rw[ha];simp
  rw[e,iK ps (aA++[p]) (by simpa using h)];simp
noncomputable def jy(K:PySem.W.Frag)(G:bo):List Str->List C->List (TE×TE)
 | k::ks,c::cs=>(tC (.str k),tE K (ev G c))::jy K G ks cs
 | _,_=>[]
theorem lq{K:PySem.W.Frag}(ks:List Str)(cs:List C):∀t∈jy K G ks cs,(∀σ H A B,(∀v H,A v H->B v H)->t.1 σ H A->t.1 σ H B)/\(∀σ H A B,(∀v H,A v H->B v H)->t.2 σ H A->t.2 σ H B):=by
 intro t ht
 have:∀(ks:List Str)(cs:List C),t∈jy K G ks cs->∃k c,t=(tC (.str k),tE K (ev G c)):=by
  intro ks
  induction ks with
  | nil=>intro cs h;cases cs<;>cases h
  | cons k ks ih =>
   intro cs h
   cases cs with
   | nil=>cases h
   | cons c cs =>
    rcases bw.mp h with z | z
    ·exact⟨k,c,z⟩
    ·exact ih cs z
 obtain⟨k,c,rfl⟩:=this ks cs ht;refine⟨λσ H A B f h=>f _ _ h,λσ H A B f h=>?_⟩;obtain⟨ads,M,ρ,s,q⟩:=h;refine⟨ads,M,ρ,s,?_⟩
 cases hq:ev G c ρ M with
 | ok w M1=>rw[hq]at q;exact λv H' aq g m r=>f _ _ (q v H' aq g m r)
 | err _ _=>rw[hq]at q;exact q
 | aa=>rw[hq]at q;exact q
theorem pZ{K:PySem.W.Frag}{ρ:En}{σ:L2.St}:∀(ks:List Str)(cs:List C){ads:List Addr}{H:Hp}{M:af}{R:List V->Hp->Prop},ks.length=cs.length->SR K ads M ρ σ H->pP K ads H R (bh G cs ρ M)->fC (jy K G ks cs) σ H λps H2=>∃vs,ps=(ks.map V.str).zip vs/\vs.length=ks.length/\R vs H2
 | [],[],ads,H,M,R,_,s,h=>⟨[],rfl,rfl,h [] H ads (ay.refl _ _) s.mem (by unfold aH;rfl)⟩
 | [],_::_,_,_,_,_,e,_,_=>by cases e
 | _::_,[],_,_,_,_,e,_,_=>by cases e
 | k::ks,c::cs,ads,H,M,R,e,s,h=>by
  show tE K (ev G c) σ H λy H2=>fC (jy K G ks cs) σ H2 λps H3=>_;refine⟨ads,M,ρ,s,?_⟩;simp only[fk,d8]at h
  cases hq:ev G c ρ M with
  | ok w M1 =>
   rw[hq]at h;intro v H1 ag g1 m1 r1
   cases ho:own w M1 with
   | ok d M2 =>
    have h:pP K ads H R ((own w M1).bind λd M=>(bh G cs ρ M).bind λds M=>.ok (d::ds) M):=h;rw[ho]at h;obtain⟨aX,g2,m2,rd⟩:=nX s.mem g1 m1 r1 ho;have h:pP K ads H R ((bh G cs ρ M2).bind λds M=>.ok (d::ds) M):=h
    have h2:pP K aX H1 (λvs H'=>R (v::vs) H') (bh G cs ρ M2):=by
     cases zh:bh G cs ρ M2 with
     | ok ds M3 =>
      rw[zh]at h;intro vs H3 dv g3 m3 r3;refine h (v::vs) H3 dv (g2.trans g3) m3 ?_;unfold aH;exact⟨v,vs,rfl,g3.rd _ _ rd,r3⟩
     | err _ _=>rw[zh]at h;exact EX.shift (show EX.post K ads H _ _ from h) g2
     | aa=>rw[zh]at h;exact h
    have ih:=pZ ks cs (by simpa using e) (s.grow g2 m2) h2
    have mono:∀(kA:List (TE×TE))(H:Hp)(P Q:List (V×V)->Hp->Prop),(∀ps H,P ps H->Q ps H)->(∀t∈kA,(∀σ H A B,(∀v H,A v H->B v H)->t.1 σ H A->t.1 σ H B)/\(∀σ H A B,(∀v H,A v H->B v H)->t.2 σ H A->t.2 σ H B))->fC kA σ H P->fC kA σ H Q:=by
     intro kA
     induction kA with
     | nil=>intro H P Q f _ h;exact f _ _ h
     | cons t kA ih =>
      intro H P Q f hm h;obtain⟨m1,m2⟩:=hm t cG;refine m1 σ H _ _ (λx H1 h1=>m2 σ H1 _ _ (λy H2 h2=>ih H2 _ _ (λps H3 h3=>f _ _ h3) (λt ht=>hm t (cZ _ ht)) h2) h1) h
    refine mono _ _ _ _ ?_ ?_ ih
    ·rintro ps H3 ⟨vs,rfl,hl,hR⟩;exact⟨v::vs,rfl,by simp[hl],hR⟩
    ·intro t ht;exact lq ks cs t ht
   | err _ _=>cases w<;>cases ho
   | aa=>cases w<;>cases ho
  | err _ _=>rw[hq]at h;exact h
  | aa=>rw[hq]at h;exact h
theorem zp{ks:List Str}{cs:List C}:∀{keys:List (Option Expr)}{vs:List Expr}{pos:Pos},iI ks keys=true->ks.length=cs.length->bU cc cs vs=true->(∀c∈cs,∀e,bB cc c e=true->PE X e (tE X.K (ev G c)))->Lg X pos keys vs (jy X.K G ks cs):=by
 induction ks generalizing cs with
 | nil =>
  intro keys vs pos h1 h2 h3 ih
  cases keys with
  | cons _ _=>cases h1
  | nil =>
   cases cs with
   | cons _ _=>cases h2
   | nil =>
    cases vs with
    | cons _ _=>cases h3
    | nil=>exact BH
 | cons k ks YM =>
  intro keys vs pos h1 h2 h3 ih
  cases cs with
  | nil=>cases h2
  | cons c cs =>
   cases vs with
   | nil=>cases h3
   | cons e es =>
    have h':(az e&&bB cc c e&&bU cc cs es)=true:=h3;simp only[aF]at h'
    cases keys with
    | nil=>cases h1
    | cons ky keys =>
     cases ky with
     | none=>cases h1
     | some ke =>
      obtain⟨h1,hk⟩:=(aF _ _).mp h1;refine cu (P:=λke=>Lg X pos (some ke::keys) (e::es) _) h1 λcn j p h1=>?_;cases cn<;>first | exact absurd (show false=true from h1) aI | skip
      rename_i st
      obtain rfl:k=st:=eq_of_beq h1;exact yr xT (ih c cG e h'.1.2) (YM hk (by simpa using h2) h'.2 λc hc=>ih c (cZ _ hc))
theorem iL:∀{ks:List Str}{keys:List (Option Expr)},iI ks keys=true->keys.all (·.isSome)=true/\keys.length=ks.length
 | [],[],_=>⟨rfl,rfl⟩
 | [],_::_,h=>by cases h
 | _::_,[],h=>by cases h
 | k::ks,ky::keys,h=>by
  cases ky with
  | none=>cases h
  | some ke =>
   obtain⟨a,b⟩:=iL ((aF _ _).mp h).2;exact⟨by simp[a],by simp[b]⟩
theorem p0:∀{cs:List C}{es:List Expr},bU cc cs es=true->cs.length=es.length
 | [],[],_=>rfl
 | [],_::_,h=>by cases h
 | _::_,[],h=>by cases h
 | c::cs,e::es,h=>by
  have h':(az e&&bB cc c e&&bU cc cs es)=true:=h;simp only[aF]at h';simp[p0 h'.2]
theorem tT{α β:Type}:∀(l:List α)(r:List β),l.length=r.length->(l.zip r).map (·.1)=l
 | [],_,_=>by simp
 | a::l,[],h=>by simp at h
 | a::l,b::r,h=>by simp[tT l r (by simpa using h)]
theorem tU{K:PySem.W.Frag}{ads:List Addr}{H:Hp}:∀(ks:List bZ){ds:List D}{vs:List V},aH K ads H ds vs->ks.length=ds.length->cf K ads H (ks.zip ds) (ks.zip vs)
 | [],ds,vs,r,h=>by simp;unfold cf;rfl
 | k::ks,[],vs,r,h=>by simp at h
 | k::ks,d::ds,vs,r,h=>by
  unfold aH at r;obtain⟨x,r',rfl,h1,h2⟩:=r;show cf K ads H ((k,d)::ks.zip ds) ((k,x)::ks.zip r');unfold cf;exact⟨_,_,rfl,rfl,h1,tU ks h2 (by simpa using h)⟩
theorem Jf{pos:Pos}:PE X (.Dict [] [] pos) (tE X.K (ev G (.wg [] []))):=by
 refine eQ yq λσ H Q q=>?_;obtain⟨ads,M,ρ,s,q⟩:=q;intro p hp
 have q:bz X.K ads H Q (.ok (.d (.aB M.length)) (M++[.dK []])):=by
  simp only[rF,fk,d8]at q;exact q
 exact q.Uc s.mem hp (show cf X.K ads H [] [] by unfold cf;rfl)
theorem PZ{ks:List Str}{cs:List C}{keys:List (Option Expr)}{vs:List Expr}{pos:Pos}(h1:iI ks keys=true)(hn:ks.Nodup)(h0:keys≠[])(Oy:keys.length<=15)(hc:bU cc cs vs=true)(hl:ks.length=cs.length)(ih:∀c∈cs,∀e,bB cc c e=true->PE X e (tE X.K (ev G c))):PE X (.Dict keys vs pos) (tE X.K (ev G (.wg ks cs))):=by
 obtain⟨k1,k2⟩:=iL h1;refine eQ (BI (zp h1 hl hc ih) k1 (by rw[k2,hl,p0 hc]) h0 Oy) λσ H Q q=>?_;obtain⟨ads,M,ρ,s,q⟩:=q;intro p hp;have Wy:=s.mem.fresh hp;have g0:ay ads ads H (bH H p (.dK [])):=ay.gc s.mem hp;have s0:SR X.K ads M ρ σ (bH H p (.dK [])):=s.grow g0 (s.mem.gc hp);simp only[rF]at q
 have main:pP X.K ads (bH H p (.dK [])) (λvs H2=>H2 p=some (.dK [])/\(vs.length=ks.length->Q (.ref p) (bH H2 p (.dK ((ks.map Sum.inr).zip vs))))) (bh G cs ρ M):=by
  cases hq:bh G cs ρ M with
  | ok ds M1 =>
   rw[hq]at q;have q:bz X.K ads H Q (if ks.length=ds.length then .ok (.d (.aB M1.length)) (M1++[.dK ((ks.map Sum.inr).zip ds)]) else .aa):=q;split at q
   ·rename_i YN
    intro vs H2 aX g2 m2 r2;have e2:H2 p=some (.dK []):=g2.kept p _ Wy bW;refine⟨e2,λrQ=>?_⟩;have Wz:p∉aX:=g2.fj Wy bW;have tk:TF H2 (bH H2 p (.dK ((ks.map Sum.inr).zip vs))):=⟨λb xs h=>by rw[ax (λz=>by subst z;rw[e2]at h;cases h)];exact h,λb o u h=>by rw[ax (λz=>by subst z;rw[e2]at h;cases h)];exact h,λb gs h=>by rw[ax (λz=>by subst z;rw[e2]at h;cases h)];exact h⟩;have m3:aM X.K aX (bH H2 p (.dK ((ks.map Sum.inr).zip vs))) M1:=m2.keep tk λa ha=>ax (λz=>by subst z;exact Wz ha);have r3:=aH.keep (K:=X.K) (ads:=aX) tk _ _ r2;have m4:=m3.push (o:=.dK ((ks.map Sum.inr).zip ds)) Wz ⟨_,bW,tU (ks.map Sum.inr) r3 (by simpa using YN)⟩;obtain⟨t,et⟩:=g2.pre;refine q (.ref p) _ (aX++[p]) ⟨⟨t++[p],by rw[et,jM]⟩,λb hb nb=>?_,λb x nb h=>?_,λb xs h=>?_,λb o u h=>?_⟩ m4 ?_
    ·rcases fN.mp hb with z | z
     ·have:=g2.new b z nb;by_cases zq:b=p
      ·subst zq;exact hp
      ·rw[ax zq]at this;exact this
     ·have:b=p:=by simpa using z
      subst this;exact hp
    ·have zq:b≠p:=λz=>by subst z;rw[hp]at h;cases h
     rw[ax zq];exact g2.kept b x nb (by rw[ax zq];exact h)
    ·have zq:b≠p:=λz=>by subst z;rw[hp]at h;cases h
     rw[ax zq];exact g2.fQ b xs (by rw[ax zq];exact h)
    ·have zq:b≠p:=λz=>by subst z;rw[hp]at h;cases h
     rw[ax zq];exact g2.fP b o u (by rw[ax zq];exact h)
    ·show RD X.K (aX++[p]) (bH H2 p (.dK ((ks.map Sum.inr).zip vs))) (.aB M1.length) (.ref p);unfold RD;exact⟨p,rfl,by rw[lT (by rw[m2.len];exact a7 _)];simp[m2.len]⟩
   ·exact q.elim
  | err _ _=>rw[hq]at q;exact EX.shift (show EX.post X.K ads H _ _ from q) (ay.gc s.mem hp)
  | aa=>rw[hq]at q;exact q
 have h:=pZ ks cs hl s0 main
 have mono:∀(kA:List (TE×TE))(H:Hp)(P Q:List (V×V)->Hp->Prop),(∀ps H,P ps H->Q ps H)->(∀t∈kA,(∀σ H A B,(∀v H,A v H->B v H)->t.1 σ H A->t.1 σ H B)/\(∀σ H A B,(∀v H,A v H->B v H)->t.2 σ H A->t.2 σ H B))->fC kA σ H P->fC kA σ H Q:=by
  intro kA
  induction kA with
  | nil=>intro H P Q f _ h;exact f _ _ h
  | cons t kA ih =>
   intro H P Q f hm h;obtain⟨m1,m2⟩:=hm t cG;refine m1 σ H _ _ (λx H1 h1=>m2 σ H1 _ _ (λy H2 h2=>ih H2 _ _ (λps H3 h3=>f _ _ h3) (λt ht=>hm t (cZ _ ht)) h2) h1) h
 refine mono _ _ _ _ ?_ (lq ks cs) h;rintro ps H2 ⟨vs,rfl,rQ,e2,hQ⟩;refine⟨e2,(ks.map Sum.inr).zip vs,?_,?_,?_⟩
 ·rw[List.zip_map_left,List.zip_map_left,kh];rfl
 ·rw[List.length_zip,aR,rQ];omega
 ·have YO:((([]:List (bZ×V)).map (·.1))++((ks.map (Sum.inr (α:=Int))).zip vs).map (·.1)).Nodup:=by
   rw[tT _ _ (by rw[aR];exact rQ.symm)];simp only[m_,wD];exact List.Pairwise.map _ (λa b WA z=>WA (Sum.inr.inj z)) hn
  rw[iK _ _ YO];exact hQ rQ
end
end
section
variable [EX]
def FW(K:PySem.W.Frag)(ads:List Addr)(H:Hp)(it:Ev.It)(J:L2.It):Prop :=
 ∀(i:Nat)(ag:List Addr)(H1:Hp)(M1:af),ay ads ag H H1->aM K ag H1 M1 ->
  (itemAt M1 i it=some none->J.stop i H1) /\
  (∀d,itemAt M1 i it=some (some d)->J.go i H1/\∀x H2,J.N7 i H1 x H2->ay ag ag H1 H2/\aM K ag H2 M1/\RD K ag H2 d x)
def jA(K:PySem.W.Frag)(ads:List Addr)(H:Hp)(R:L2.It->Hp->Prop):bE Ev.It->Prop
 | .ok it M=>∀J H' aq,ay ads aq H H'->aM K aq H' M->FW K aq H' it J->R J H'
 | .err x M=>EX.post K ads H x M
 | .aa=>False
noncomputable def tI(K:PySem.W.Frag)(o:En->af->bE Ev.It):TI:=λσ H R=>∃ads M ρ,SR K ads M ρ σ H/\jA K ads H R (o ρ M)
def cP(G:bo)(k:SK)(cU:List C)(ρ:En)(M:af):bE Ev.It:=(cI G cU ρ M).bind λws M=>gf k ws M
section
variable {K:PySem.W.Frag} {ads:List Addr} {H:Hp} {M:af}
theorem tV(lo:Int)(n:Nat):FW K ads H (.iZ lo n) (N8 lo n):=by
 intro i ag H1 M1 g1 m1;refine⟨λe=>?_,λd e=>?_⟩
 ·by_cases h:i<n
  ·simp[itemAt,h]at e
  ·exact Nat.not_lt.mp h
 ·by_cases h:i<n
  ·simp only[itemAt,aG h,qL]at e;subst e;refine⟨h,λx H2 y=>?_⟩;obtain⟨rfl,rfl⟩:=y;exact⟨ay.refl _ _,m1,cQ _⟩
  ·simp[itemAt,h]at e
theorem lr{it:Ev.It}{a:Addr}(h:∀(i:Nat)(ag:List Addr)(H1:Hp)(M1:af),ay ads ag H H1->aM K ag H1 M1->∀o,itemAt M1 i it=some o->∃ds xs,o=ds[i]?/\aH K ag H1 ds xs/\eF K H1 a xs):FW K ads H it (SV K a):=by
 intro i ag H1 M1 g1 m1;refine⟨λe=>?_,λd e=>?_⟩
 ·obtain⟨ds,xs,e2,rd,sq⟩:=h i ag H1 M1 g1 m1 _ e;refine⟨xs,sq,?_⟩;rw[<- rd.len];exact Ba.mp e2.symm
 ·obtain⟨ds,xs,e2,rd,sq⟩:=h i ag H1 M1 g1 m1 _ e;obtain⟨v,ev,rv⟩:=rd.get e2.symm;refine⟨⟨xs,v,sq,ev⟩,λx H2 y=>?_⟩;obtain⟨rfl,y⟩:=y;have:=y xs sq;rw[ev]at this;cases this;exact⟨ay.refl _ _,m1,rv⟩
theorem CG{ds:List D}{xs:List V}{a:Addr}(ha:H a=some (.tup xs))(rd:aH K ads H ds xs):FW K ads H (.items ds) (SW K a):=by
 intro i ag H1 M1 g1 m1;have sq:fb K H1 a xs:=fb.of (g1.fQ _ _ ha);have YQ:=g1.l9 _ _ rd;refine⟨λe=>?_,λd e=>?_⟩
 ·refine⟨xs,sq,?_⟩;rw[<- rd.len];exact Ba.mp (cH e)
 ·obtain⟨v,ev,rv⟩:=YQ.get (cH e);refine⟨⟨xs,v,sq,ev⟩,λx H2 y=>?_⟩;obtain⟨rfl,y⟩:=y;have:=y xs sq;rw[ev]at this;cases this;exact⟨ay.refl _ _,m1,rv⟩
theorem CH{x:Str}:FW K ads H (.items (iB x)) (T5 x):=by
 intro i ag H1 M1 g1 m1
 have hc:(iB x)[i]?=(x.cps[i]?).map λc=>D.str ⟨#[c]⟩:=by
  unfold iB;rw[ff,Array.getElem?_toList]
 refine⟨λe=>?_,λd e=>?_⟩
 ·have e:(iB x)[i]?=none:=cH e;rw[hc]at e;exact Array.getElem?_eq_none_iff.mp (Option.map_eq_none_iff.mp e)
 ·have e:(iB x)[i]?=some d:=cH e;rw[hc]at e;obtain⟨c,ec,rfl⟩:=Gw.mp e;refine⟨(Array.getElem?_eq_some_iff.mp ec).1,λy H2 z=>?_⟩;obtain⟨rfl,c',WB,rfl⟩:=z;rw[ec]at WB;cases WB;exact⟨ay.refl _ _,m1,by unfold RD;rfl⟩
end
theorem tX{K:PySem.W.Frag}{ads:List Addr}{H:Hp}{M:af}{n:Nat}{v:V}{p:Bool×List D}(m:aM K ads H M)(r:RD K ads H (.aB n) v)(hp:b_ M (.d (.aB n))=some p):∃a,v=.ref a/\∃xs,eF K H a xs:=by
 obtain⟨l,ds⟩:=p;obtain⟨a,xs,e,rd,sq⟩:=e9 (w:=.d (.aB n)) m r hp;rcases sq with⟨_,sq⟩|⟨hl,_⟩
 ·exact⟨a,e,xs,sq⟩
 ·simp only[b_]at hp;split at hp
  ·cases hp;cases hl
  ·cases hp;cases hl
  ·cases hp
theorem zr{K:PySem.W.Frag}{ads aX:List Addr}{H H2:Hp}{M2:af}{n i:Nat}{a:Addr}{o:Option D}(r:RD K ads H (.aB n) (.ref a))(g2:ay ads aX H H2)(m2:aM K aX H2 M2)(e:itemAt M2 i (.at n)=some o):∃ds xs,o=ds[i]?/\aH K aX H2 ds xs/\eF K H2 a xs:=by
 unfold RD at r;obtain⟨b,eb,ea⟩:=r;cases eb;have P0:=g2.get ea;simp only[itemAt]at e;split at e
 ·rename_i ds q
  obtain⟨xs,h,rd⟩:=m2.obj n _ a q P0;exact⟨ds,xs,(cH e).symm,rd,eF.of h⟩
 ·rename_i ds q
  obtain⟨o,xs,h,rd⟩:=m2.obj n _ a q P0;exact⟨ds,xs,(cH e).symm,rd,.inl (.inr ⟨o,h⟩)⟩
 ·cases e
section
variable {kk:Nat} {X:Cx} {cc:CC} {G:bo} {tg:Expr} {K:PySem.W.Frag} {ads:List Addr} {H:Hp}
theorem Uq{aD:Expr}{t u:TI}(h:PI X tg aD t)(f:∀σ H R,u σ H R->t σ H R):PI X tg aD u:=λpins s σ H R I q=>h pins s σ H R I (f σ H R q)
theorem CI{c:C}{aD:Expr}(he:PE X aD (tE X.K (ev G c))):PI X tg aD (tI X.K (cP G .seq [c])):=by
 intro pins s σ H R I q;obtain⟨ads,M,ρ,sr,q⟩:=q;simp only[cP,cI]at q
 cases hq:ev G c ρ M with
 | ok w M1 =>
  rw[hq]at q;have q:jA X.K ads H R (gf .seq [w] M1):=q
  cases w with
  | lv ds =>
   have q:jA X.K ads H R (.ok (.items ds) M1):=q;refine nA he pins s σ H R I ⟨ads,M,ρ,sr,?_⟩;rw[hq];intro v H1 ag g1 m1 r1;obtain⟨a,xs,rfl,h0,h1,n,rd⟩:=r1;refine⟨a,rfl,⟨xs,eF.of h1⟩,q _ H1 ag g1 m1 (lr λi aX H2 M2 g2 m2 o e=>?_)⟩;exact⟨ds,xs,(cH e).symm,g2.l9 _ _ rd,eF.of (g2.kept a _ n h1)⟩
  | d x =>
   cases x with
   | tup ds =>
    have q:jA X.K ads H R (.ok (.items ds) M1):=q;refine x4 he pins s σ H R I ⟨ads,M,ρ,sr,?_⟩;rw[hq];intro v H1 ag g1 m1 r1;have r1:RD X.K ag H1 (.tup ds) v:=r1;unfold RD at r1;obtain⟨a,xs,rfl,h1,rd⟩:=r1;exact⟨a,rfl,⟨xs,fb.of h1⟩,q _ H1 ag g1 m1 (CG h1 rd)⟩
   | ls ds =>
    have q:jA X.K ads H R (.ok (.items ds) M1):=q;refine nA he pins s σ H R I ⟨ads,M,ρ,sr,?_⟩;rw[hq];intro v H1 ag g1 m1 r1;have r1:RD X.K ag H1 (.ls ds) v:=r1;unfold RD at r1;obtain⟨a,xs,rfl,h1,rd⟩:=r1;refine⟨a,rfl,⟨xs,h1.sq⟩,q _ H1 ag g1 m1 (lr λi aX H2 M2 g2 m2 o e=>?_)⟩;exact⟨ds,xs,(cH e).symm,g2.l9 _ _ rd,(g2.i9 h1).sq⟩
   | aB n =>
    have q:jA X.K ads H R (if (b_ M1 (.d (.aB n))).isSome then .ok (.at n) M1 else .aa):=q;split at q
    ·rename_i hs
     obtain⟨p,hp⟩:=uD.mp hs;refine nA he pins s σ H R I ⟨ads,M,ρ,sr,?_⟩;rw[hq];intro v H1 ag g1 m1 r1;obtain⟨a,ea,sq⟩:=tX m1 r1 hp;subst ea;exact⟨a,rfl,sq,q _ H1 ag g1 m1 (lr λi aX H2 M2 g2 m2 o e=>zr r1 g2 m2 e)⟩
    ·exact q.elim
   | ba=>exact q.elim
   | bl _=>exact q.elim
   | int _=>exact q.elim
   | str x =>
    have q:jA X.K ads H R (if (x.cps.all λc=>decide (c<128))=true then .ok (.items (iB x)) M1 else .aa):=q;split at q
    ·rename_i ha
     refine Ic he pins s σ H R I ⟨ads,M,ρ,sr,?_⟩;rw[hq];intro v H1 ag g1 m1 r1;have r1:RD X.K ag H1 (.str x) v:=r1;unfold RD at r1;exact⟨x,r1,ha,q _ H1 ag g1 m1 CH⟩
    ·exact q.elim
   | fn _=>exact q.elim
   | tg _=>exact q.elim
 | err _ _=>rw[hq]at q;exact x4 he pins s σ H R I ⟨ads,M,ρ,sr,by rw[hq];exact q⟩
 | aa=>rw[hq]at q;exact q.elim
theorem zt{c:C}{a:Expr}{x:Str}{p pos:Pos}(g:Good kk X cc G) (hx:x = "range") (hg:glob cc x=true) (hs:az a=true) (he:PE X a (tE X.K (ev G c))):PI X tg (.Call (.Name x p) [a] [] pos) (tI X.K (cP G .rng1 [c])):=by
 have tP:=g.gl hg;have hm:X.mg x=none:=g.blt x (by subst hx;show _∈cD;decide +kernel);subst hx;refine Uq (u6 tP hm (d6 he jl (bc hs [] X.env)) (bc hs [] X.env)) λσ H R q=>?_;obtain⟨ads,M,ρ,s,q⟩:=q;simp only[cP,cI]at q;refine⟨ads,M,ρ,s,?_⟩
 cases hq:ev G c ρ M with
 | ok w M1 =>
  rw[hq]at q;have q:jA X.K ads H R (gf .rng1 [w] M1):=q;intro v H1 ag g1 m1 r1;rcases w with⟨_|_ | j | _|_|_⟩|_<;>first | exact q.elim | skip
  have q:jA X.K ads H R (if -(2 ^ 62)<=j/\j<2 ^ 62 then .ok (.iZ 0 j.toNat) M1 else .aa):=q;split at q
  ·rename_i hj
   exact⟨j,by rw[aY r1],hj.1,hj.2,q _ H1 ag g1 m1 (tV _ _)⟩
  ·exact q.elim
 | err _ _=>rw[hq]at q;exact q
 | aa=>rw[hq]at q;exact q.elim
theorem zu{c d:C}{a b:Expr}{x:Str}{p pos:Pos}(g:Good kk X cc G) (hx:x = "range") (hg:glob cc x=true) (hs:az a=true) (x5:az b=true) (he:PE X a (tE X.K (ev G c))) (hd:PE X b (tE X.K (ev G d))):PI X tg (.Call (.Name x p) [a,b] [] pos) (tI X.K (cP G .rng2 [c,d])):=by
 have tP:=g.gl hg;have hm:X.mg x=none:=g.blt x (by subst hx;show _∈cD;decide +kernel);subst hx;refine Uq (u7 tP hm (d6 he (d6 hd jl (bc x5 [] X.env)) (bc hs [b] X.env)) (by rw[bc hs,bc x5];rfl) (bc x5 [] X.env)) λσ H R q=>?_;obtain⟨ads,M,ρ,s,q⟩:=q;simp only[cP,cI]at q;refine⟨ads,M,ρ,s,?_⟩
 cases hq:ev G c ρ M with
 | ok w M1 =>
  rw[hq]at q;intro v H1 ag g1 m1 r1;have s1:=s.grow g1 m1;refine⟨ag,M1,ρ,s1,?_⟩;simp only[bE.bind]at q
  cases zk:ev G d ρ M1 with
  | ok w2 M2 =>
   rw[zk]at q;have q:jA X.K ads H R (gf .rng2 [w,w2] M2):=q;intro v2 H2 aX g2 m2 r2;rcases w with⟨_|_ | i | _|_|_⟩|_<;>first | exact q.elim | skip
   rcases w2 with⟨_|_ | j | _|_|_⟩|_<;>first | exact q.elim | skip
   have q:jA X.K ads H R (if -(2 ^ 62)<=i/\i<2 ^ 62/\-(2 ^ 62)<=j/\j<2 ^ 62 then .ok (.iZ i (j-i).toNat) M2 else .aa):=q;split at q
   ·rename_i hj
    exact⟨i,j,by rw[aY r1,aY r2],hj,q _ H2 aX (g1.trans g2) m2 (tV _ _)⟩
   ·exact q.elim
  | err _ _=>rw[zk]at q;exact EX.shift (show EX.post X.K ads H _ _ from q) g1
  | aa=>rw[zk]at q;exact q.elim
 | err _ _=>rw[hq]at q;exact q
 | aa=>rw[hq]at q;exact q.elim
theorem cf.at{κ:Type}{K:PySem.W.Frag}{ads:List Addr}{H:Hp}:∀{ao:List (κ×D)}{ks:List (κ×V)}(i:Nat),cf K ads H ao ks->(ao[i]?).map (·.1)=(ks[i]?).map (·.1)
 | [],_,_,r=>by unfold cf at r;subst r;rfl
 | p::ao,_,i,r=>by
  unfold cf at r;obtain⟨x,r',rfl,h0,_,h2⟩:=r
  cases i with
  | zero=>simp[h0]
  | succ i=>simpa using cf.at i h2
theorem FX{K:PySem.W.Frag}{ads:List Addr}{H:Hp}{M:af}{w:W}{v:V}{z:Z1}(m:aM K ads H M)(r:RW K ads H w v)(hz:FE M w=some z):∃(l:Bool) (a:Addr),v=.ref a/\(∃xs,oH K H l a xs)/\∀aX H2 M2,ay ads aX H H2->aM K aX H2 M2->∀ds,mf M2 z=some ds->∃xs,aH K aX H2 ds xs/\oH K H2 l a xs:=by
 rcases w with⟨_|_|_|_ | ds | n | ds⟩ | ds<;>first | cases hz | skip
 ·have r:RD K ads H (.tup ds) v:=r;unfold RD at r;obtain⟨b,xs,rfl,h1,rd⟩:=r;exact⟨false,b,rfl,⟨xs,fb.of h1⟩,λaX H2 M2 g2 m2 es e=>by cases e;exact⟨xs,g2.l9 _ _ rd,fb.of (g2.fQ _ _ h1)⟩⟩
 ·have hz:(if (b_ M (.d (.aB n))).isSome then some (Z1.at n) else none)=some z:=hz;split at hz
  ·rename_i hs
   cases hz;obtain⟨p,hp⟩:=uD.mp hs;obtain⟨b,ea,sq⟩:=tX m r hp;subst ea;refine⟨true,b,rfl,sq,λaX H2 M2 g2 m2 es e=>?_⟩;have r:RD K ads H (.aB n) (.ref b):=r;unfold RD at r;obtain⟨b',eb,ea⟩:=r;cases eb;have P0:=g2.get ea;simp only[mf]at e;split at e
   ·rename_i ds q
    cases e;obtain⟨xs,h,rd⟩:=m2.obj n _ b q P0;exact⟨xs,rd,eF.of h⟩
   ·rename_i ds q
    cases e;obtain⟨o,xs,h,rd⟩:=m2.obj n _ b q P0;exact⟨xs,rd,.inl (.inr ⟨o,h⟩)⟩
   ·cases e
  ·cases hz
 ·have r:RD K ads H (.ls ds) v:=r;unfold RD at r;obtain⟨b,xs,rfl,h1,rd⟩:=r;exact⟨true,b,rfl,⟨xs,h1.sq⟩,λaX H2 M2 g2 m2 es e=>by cases e;exact⟨xs,g2.l9 _ _ rd,(g2.i9 h1).sq⟩⟩
 ·obtain⟨b,xs,rfl,h1,n,rd⟩:=r;exact⟨true,b,rfl,⟨xs,eF.of h1⟩,λaX H2 M2 g2 m2 es e=>by cases e;exact⟨xs,g2.l9 _ _ rd,eF.of (g2.kept b _ n h1)⟩⟩
theorem CJ{K:PySem.W.Frag}{ads:List Addr}{H:Hp}{z y:Z1}{l m:Bool}{a b:Addr}(h1:∀aX H2 M2,ay ads aX H H2->aM K aX H2 M2->∀ds,mf M2 z=some ds->∃xs,aH K aX H2 ds xs/\oH K H2 l a xs)(h2:∀aX H2 M2,ay ads aX H H2->aM K aX H2 M2->∀ds,mf M2 y=some ds->∃xs,aH K aX H2 ds xs/\oH K H2 m b xs):FW K ads H (.zip z y) (TU K l m a b):=by
 intro i ag H1 M1 g1 m1
 have mE:∀o,itemAt M1 i (.zip z y)=some o->∃ds es xs ys,o=jH ds es i/\aH K ag H1 ds xs/\oH K H1 l a xs/\aH K ag H1 es ys/\oH K H1 m b ys:=λo e=>by
  simp only[itemAt]at e;split at e
  ·rename_i ds es q1 q2
   obtain⟨xs,r1,s1⟩:=h1 ag H1 M1 g1 m1 ds q1;obtain⟨ys,r2,s2⟩:=h2 ag H1 M1 g1 m1 es q2;exact⟨ds,es,xs,ys,(cH e).symm,r1,s1,r2,s2⟩
  ·cases e
 refine⟨λe=>?_,λd e=>?_⟩
 ·obtain⟨ds,es,xs,ys,e2,r1,s1,r2,s2⟩:=mE _ e;refine⟨xs,ys,s1,s2,?_⟩;rw[<- r1.len,<- r2.len];unfold jH at e2
  cases q1:ds[i]? with
  | none=>exact .inl (Ba.mp q1)
  | some d1 =>
   cases q2:es[i]? with
   | none=>exact .inr (Ba.mp q2)
   | some d2=>rw[q1,q2]at e2;cases e2
 ·obtain⟨ds,es,xs,ys,e2,r1,s1,r2,s2⟩:=mE _ e;unfold jH at e2
  cases q1:ds[i]? with
  | none=>rw[q1]at e2;cases e2
  | some d1 =>
   cases q2:es[i]? with
   | none=>rw[q1,q2]at e2;cases e2
   | some d2 =>
    rw[q1,q2]at e2;cases e2;obtain⟨v1,WC,YR⟩:=r1.get q1;obtain⟨v2,WD,PU⟩:=r2.get q2;refine⟨⟨xs,ys,v1,v2,s1,s2,WC,WD⟩,λx H2 yy=>?_⟩;obtain⟨p,x1,x2,rfl,hp,rfl,a1,a2⟩:=yy;have t1:=a1 xs s1;have t2:=a2 ys s2;rw[WC]at t1;rw[WD]at t2;cases t1;cases t2;have g2:=ay.gc (o:=.tup [v1,v2]) m1 hp;refine⟨g2,m1.gc hp,?_⟩;unfold RD;refine⟨p,_,rfl,bW,?_⟩;unfold aH;exact⟨v1,[v2],rfl,g2.rd _ _ YR,.one (g2.rd _ _ PU)⟩
theorem CK{c d:C}{a b t:Expr}{x:Str}{p pos:Pos}(g:Good kk X cc G) (hx:x = "zip") (hg:glob cc x=true) (hs:az a=true) (x5:az b=true) (he:PE X a (tE X.K (ev G c))) (hd:PE X b (tE X.K (ev G d))):PI X t (.Call (.Name x p) [a,b] [] pos) (tI X.K (cP G .zip [c,d])):=by
 have tP:=g.gl hg;have hm:X.mg x=none:=g.blt x (by subst hx;show _∈cD;decide +kernel);subst hx;refine Uq (H_ tP hm (d6 he (d6 hd jl (bc x5 [] X.env)) (bc hs [b] X.env)) (bc hs [b] X.env) (bc x5 [] X.env)) λσ H R q=>?_;obtain⟨ads,M,ρ,s,q⟩:=q;simp only[cP,cI]at q;refine⟨ads,M,ρ,s,?_⟩
 cases hq:ev G c ρ M with
 | ok w M1 =>
  rw[hq]at q;intro v H1 ag g1 m1 r1;have s1:=s.grow g1 m1;refine⟨ag,M1,ρ,s1,?_⟩;simp only[bE.bind]at q
  cases zk:ev G d ρ M1 with
  | ok w2 M2 =>
   rw[zk]at q;have q:jA X.K ads H R (gf .zip [w,w2] M2):=q;intro v2 H2 aX g2 m2 r2
   have q:jA X.K ads H R (match FE M2 w,FE M2 w2 with
    | some a,some b=>.ok (.zip a b) M2
    | _,_=>.aa):=q
   cases q1:FE M2 w with
   | none=>rw[q1]at q;exact q.elim
   | some z1 =>
    cases q2:FE M2 w2 with
    | none=>rw[q1,q2]at q;exact q.elim
    | some z2 =>
     rw[q1,q2]at q;obtain⟨l,a1,rfl,YS,k1⟩:=FX m2 (g2.rw r1.rw) q1;obtain⟨m,b1,rfl,YT,k2⟩:=FX m2 r2.rw q2;exact⟨l,m,a1,b1,rfl,YS,YT,q _ H2 aX (g1.trans g2) m2 (CJ k1 k2)⟩
  | err _ _=>rw[zk]at q;exact EX.shift (show EX.post X.K ads H _ _ from q) g1
  | aa=>rw[zk]at q;exact q.elim
 | err _ _=>rw[hq]at q;exact q
 | aa=>rw[hq]at q;exact q.elim
end
end
section
variable [EX]
def tG(K:PySem.W.Frag)(tg:List Nat):TG:=λv σ H Q=>∃ads M ρ d,SR K ads M ρ σ H/\RD K ads H d v/\∃d4,bR tg d ρ=some d4/\∀cE,SR K ads M d4 cE H->Q cE H
theorem SR.set{K:PySem.W.Frag}{ads:List Addr}{M:af}{ρ:En}{σ:L2.St}{H:Hp}(s:SR K ads M ρ σ H)(i:Nat){d:D}{v:V}(r:RD K ads H d v):SR K ads M (ρ.set i (some d)) (σ.set i (some v)) H :=
 ⟨s.mem,λj d' e=>by
  by_cases h:i=j
  ·subst h
   have hl:i<ρ.length:=by
    have:=(dq.mp e).1;simpa using this
   rw[uF hl]at e;cases e;exact⟨v,by rw[uF (by rw[<- s.ln];exact hl)],r⟩
  ·rw[oN h]at e⊢;exact s.en j d' e,by simp[s.ln]⟩
def gN:List Nat->Ff
 | []=>N5
 | i::r=>Fh (Fg i) (gN r)
section
variable {kk:Nat} {X:Cx} {cc:CC} {G:bo}
theorem eE.nm(g:eE kk X cc G){x:Str}(h:(cc.names.lookup x==some .local||cc.names.lookup x==some .cell)=true):Loc X.env.scope x/\(X.fn x=true\/X.env.scope.names.lookup x=some .local):=by
 rw[wG]at h;rcases h with h | h
 ·have h:=eq_of_beq h;exact⟨.inl (g.kinds x _ h),.inr (g.kinds x _ h)⟩
 ·have h:=eq_of_beq h;exact⟨.inr (g.kinds x _ h),.inl (g.Ww x h)⟩
theorem tY(g:Good kk X cc G):∀(tg:List Nat)(es:List Expr),iJ cc tg es=true->Ld X es (gN tg)/\es.length=tg.length/\(assignEach es X.env).length=tg.length/\(assignEach es X.env).findIdx? (·.1)=none
 | [],[],_=>⟨Bw,rfl,rfl,rfl⟩
 | [],_::_,h=>by cases h
 | _::_,[],h=>by cases h
 | i::tg,e::es,h=>by
  obtain⟨h,h3⟩:=(aF _ _).mp h;obtain⟨ih,l1,l2,l3⟩:=tY g tg es h3;refine bu (P:=λe=>Ld X (e::es) (gN (i::tg))/\(e::es).length=(i::tg).length/\(assignEach (e::es) X.env).length=(i::tg).length/\(assignEach (e::es) X.env).findIdx? (·.1)=none) h λx p h=>?_;obtain⟨h1,h2⟩:=(aF _ _).mp h;obtain⟨n1,n2⟩:=g.nm h2;refine⟨xZ (nz (by rw[g.N];exact g.nd) (by rw[g.N];exact eq_of_beq h1) n1 n2) ih,by simp[l1],?_,?_⟩
  ·show(assignEach es X.env).length+1=_;rw[l2];rfl
  ·show List.findIdx? _ ((false,_)::assignEach es X.env)=none;rw[List.findIdx?_cons];simp only[Bool.false_eq_true,if_false];rw[l3];rfl
theorem FY{K:PySem.W.Frag}{ads:List Addr}{M:af}{H:Hp}{Q:L2.St->Hp->Prop}{d4:En}(hQ:∀cE,SR K ads M d4 cE H->Q cE H):∀(tg:List Nat)(ds:List D)(xs:List V)(ρ:En)(σ:L2.St),SR K ads M ρ σ H->aH K ads H ds xs->de tg ds ρ=some d4->gN tg xs σ H Q
 | [],[],xs,ρ,σ,s,r,e=>by
  unfold aH at r;subst r;cases e;exact⟨rfl,hQ σ s⟩
 | [],_::_,_,_,_,_,_,e=>by cases e
 | _::_,[],_,_,_,_,_,e=>by cases e
 | i::tg,d::ds,xs,ρ,σ,s,r,e=>by
  unfold aH at r;obtain⟨x,r',rfl,h1,h2⟩:=r;exact⟨x,r',rfl,FY hQ tg ds r' _ _ (s.set i h1) h2 e⟩
theorem lu:∀(tg:List Nat)(ds:List D)(ρ d4:En),de tg ds ρ=some d4->ds.length=tg.length
 | [],[],_,_,_=>rfl
 | [],_::_,_,_,e=>by cases e
 | _::_,[],_,_,e=>by cases e
 | i::tg,d::ds,ρ,d4,e=>by simp[lu tg ds _ d4 e]
theorem iM(g:Good kk X cc G){tg:List Nat}{t:Expr}(h:gT cc tg t=true):PG X t (tG X.K tg):=by
 rcases tg with _|⟨i,_|⟨j,tl⟩⟩
 ·exact absurd h aI
 ·refine bu (P:=λt=>PG X t _) ((aF _ _).mp h).1 λx p h=>?_;obtain⟨h1,h2⟩:=(aF _ _).mp h;obtain⟨n1,n2⟩:=g.nm h2;intro pins s σ H v u Q I r q;refine nz (by rw[g.N];exact g.nd) (by rw[g.N];exact eq_of_beq h1) n1 n2 pins s σ H v u Q I r ?_;obtain⟨ads,M,ρ,d,sr,rd,d4,e,hQ⟩:=q;cases e;exact hQ _ (sr.set i rd)
 ·refine hU (P:=λt=>PG X t _) h λes kq p h=>?_;obtain⟨a,l1,l2,l3⟩:=tY g (i::j::tl) es ((aF _ _).mp h).1;intro pins s σ H v u Q I r q;refine Hk (pos:=p) (k:=kq) g.calm a l2 l3 pins s σ H v u Q I r ?_;obtain⟨ads,M,ρ,d,sr,rd,d4,e,hQ⟩:=q
  have e':∃ds,d=.tup ds/\de (i::j::tl) ds ρ=some d4:=by
   cases d<;>first | cases e | exact⟨_,rfl,e⟩
  obtain⟨ds,rfl,e2⟩:=e';unfold RD at rd;obtain⟨b,xs,rfl,hb,rd⟩:=rd;exact⟨b,xs,rfl,fb.of hb,by rw[<- rd.len,lu _ ds ρ d4 e2],FY hQ _ ds xs ρ σ sr rd e2⟩
end
theorem h_ {env : Env} : ∀ (names : List (Str × NameKind)) (aA : List (Str × Addr)), (∀ y ∈ names, y.2 = .free -> ∃ c, env.cells.lookup y.1 = some c) -> (∀ x c, aA.lookup x = some c -> env.cells.lookup x = some c) ->
    ∃cl,(forIn names aA λ(x:Str×NameKind) (r:List (Str×Addr))=>(match x with | (name,kind)=>if (kind==NameKind.free)=true then do let a <- cellOf env name;pure (ForInStep.yield ((name,a)::r)) else pure (ForInStep.yield r):Sem (ForInStep (List (Str×Addr)))))=pure cl /\
      (∀x c,cl.lookup x=some c->env.cells.lookup x=some c)/\(∀x,(aA.lookup x).isSome=true->(cl.lookup x).isSome=true)/\∀y∈names,y.2=.free->(cl.lookup y.1).isSome=true
  | [],aA,_,h=>⟨aA,rfl,h,λ_ q=>q,λy hy=>by cases hy⟩
  | (n,k)::r,aA,hn,h=>by
    by_cases hk:k=.free
    · subst hk;obtain⟨c,hc⟩:=hn (n,.free) cG rfl
      have h2:∀x c',((n,c)::aA).lookup x=some c'->env.cells.lookup x=some c':=λx c' e=>by
        rw[eK]at e;by_cases hx:x=n
        · subst hx;simp at e;rw[<- e];exact hc
        · have:(x==n)=false:=m7.mpr hx;rw[this]at e;exact h x c' e
      obtain⟨cl,e1,e2,e3,e4⟩:=h_ r ((n,c)::aA) (λy hy=>hn y (cZ _ hy)) h2;refine⟨cl,?_,e2,λx q=>e3 x ?_,λy hy hf=>?_⟩
      · rw[uP];have:cellOf env n=pure c:=by unfold cellOf;rw[hc]
        simp only[jc,fO,this];exact e1
      · rw[eK];by_cases hx:(x==n)=true
        · simp[hx]
        · simp only[hx];exact q
      · rcases bw.mp hy with z | z
        · subst z;exact e3 _ (by simp[eK])
        · exact e4 y z hf
    · obtain⟨cl,e1,e2,e3,e4⟩:=h_ r aA (λy hy=>hn y (cZ _ hy)) h;refine⟨cl,?_,e2,e3,λy hy hf=>?_⟩
      · rw[uP];have:(k==NameKind.free)=false:=by simpa using hk
        simp only[this,Bool.false_eq_true,if_false];exact e1
      · rcases bw.mp hy with z | z
        · subst z;exact absurd hf hk
        · exact e4 y z hf
theorem tZ{X:Cx}{sc:Scope}(h:∀y∈sc.names,y.2=.free->∃c,X.env.cells.lookup y.1=some c):∃cl,HW X sc cl:=by
 obtain⟨cl,e1,e2,e3,e4⟩:=h_ sc.names [] h (λx c e=>by cases e);refine⟨cl,?_,e2,λx hx=>uD.mp (e4 (x,.free) (j9 hx) rfl)⟩;unfold closureFor;exact jP (λm=>m >>= λcs=>pure cs) e1
section
variable {kk:Nat} {X:Cx} {cc:CC} {G:bo}
theorem j6{sc:Scope}(h:pW cc sc=true):sc.kind=.function/\(∀y∈sc.names,y.2=.cell->sc.names.lookup y.1=some .cell)/\(∀y∈sc.names,y.2=.local->sc.names.lookup y.1=some .local)/\(dX sc).Nodup/\∀y∈sc.names,y.2=.free->sc.names.lookup y.1=some .free/\(cc.names.lookup y.1=some .cell\/cc.names.lookup y.1=some .free):=by
 unfold pW at h;simp only[aF,eT,jN,bne_iff_ne,ne_eq,oQ,wG]at h;obtain⟨⟨⟨⟨h1,h2⟩,h3⟩,h4⟩,h5⟩:=h;refine⟨h1,λy hy hk=>?_,λy hy hk=>?_,h4,λy hy hk=>?_⟩
 ·rcases h2 y hy with z | z
  ·exact absurd hk z
  ·exact z
 ·rcases h3 y hy with z | z
  ·exact absurd hk z
  ·exact z
 ·rcases h5 y hy with z | z
  ·exact absurd hk z
  ·exact z
theorem Good.block(g:Good kk X cc G){sc:Scope}(h:pW cc sc=true){cl:List (Str×Addr)}(C:Addr)(s:Shared)(H:Hp)(fp:List Addr):@Good never kk (X.block sc cl C (dX sc) s H fp []) (mL cc sc) G:=by
 obtain⟨h1,h2,h3,h4,h5⟩:=j6 h;refine @Good.mk never kk (X.block sc cl C (dX sc) s H fp []) (mL cc sc) G ⟨g.rh,rfl,h4,(λx k e=>?_),(λx e=>?_),g.blt,g.Uj,(λ_ _ _ z=>nomatch z),(λ_ _ _ z=>nomatch z),g.RC,g.rB,g.xN,(λ_ _ _ _ z=>nomatch z)⟩ g.calm g.room g.fns ⟨E0,(λ_ _ _ _ _ _ _ h=>h.elim),λh=>h.elim⟩
 ·have e:sc.names.lookup x=some k:=e;have r:=da (env:=X.env) e;have kd:(X.block sc cl C (dX sc) s H fp []).env.kindOf x=some (if (k==NameKind.free&&X.env.scope.kind == .function&&X.env.kindOf x==some .cell) then .cell else k):=r
  cases k with
  | «local»=>exact kd
  | cell=>exact kd
  | free =>
   show _\/_;rw[kd];split
   ·exact .inl rfl
   ·exact .inr rfl
  | globalExplicit=>exact True.intro
  | globalImplicit=>exact kd
 ·have e:sc.names.lookup x=some .cell:=e;show(sc.names.lookup x==some .cell)=true;rw[e];rfl
theorem zv(g:Good kk X cc G){sc:Scope}(h:pW cc sc=true):yK X sc (dX sc) (lb cc sc):=by
 obtain⟨h1,h2,h3,h4,h5⟩:=j6 h;refine⟨by simp[lb],λi j x e1 e2=>?_⟩;unfold lb at e1;rw[ff,e2]at e1;simp only[Option.map_some,qL]at e1;split at e1
 ·rename_i hf
  have hf:sc.names.lookup x=some .free:=by simpa using hf
  obtain⟨_,ho⟩:=h5 (x,.free) (j9 hf) rfl;refine⟨?_,hf,?_⟩
  ·rw[g.N];obtain⟨hj,hx,_⟩:=List.findIdx?_eq_some_iff_getElem.mp e1;rw[fx hj];have:cc.N[j]=x:=by simpa using hx
   rw[this]
  ·rcases ho with ho | ho
   ·exact .inl (g.kinds x _ ho)
   ·exact g.kinds x _ ho
 ·cases e1
theorem zw{K:PySem.W.Frag}{ads:List Addr}{M:af}{ρ:En}{σ:L2.St}{H:Hp}(s:SR K ads M ρ σ H)(cx:List (Option Nat)):SR K ads M (d0 cx ρ) (iu cx σ) H:=by
 refine⟨s.mem,λi d e=>?_,by simp[d0,iu]⟩;unfold d0 at e;unfold iu;rw[ff]at e⊢
 cases q:cx[i]? with
 | none=>rw[q]at e;cases e
 | some o =>
  rw[q]at e
  cases o with
  | none=>cases e
  | some j =>
   have e:(ρ[j]?).join=some d:=cH e
   have e2:ρ[j]?=some (some d):=by
    cases r:ρ[j]? with
    | none=>rw[r]at e;cases e
    | some z=>rw[r]at e;cases z with
     | none=>cases e
     | some y=>cases e;rfl
   obtain⟨v,ev,rv⟩:=s.en j d e2;exact⟨v,by simp[ev],rv⟩
theorem ay.t4{ads aq:List Addr}{H H':Hp}{D:Addr}{o:HO}(g:ay ads aq H H')(h:H D=none):ay ads aq H (bH H' D o) :=
 ⟨g.pre,g.new,λb x n e=>by rw[ax (λz=>by subst z;rw[h]at e;cases e)];exact g.kept b x n e,λb x e=>by rw[ax (λz=>by subst z;rw[h]at e;cases e)];exact g.fQ b x e,
  λb x u e=>by rw[ax (λz=>by subst z;rw[h]at e;cases e)];exact g.fP b x u e⟩
theorem p5{K:PySem.W.Frag}{G:bo}{it:Ev.It}{J:L2.It}{tg:List Nat}{cond:Option dU}{elt:C}{cx:List (Option Nat)}{ads:List Addr}{M:af}{ρ:En}{σ:L2.St}{H:Hp}{Q:VK}{f:Nat}(s:SR K ads M ρ σ H)(hJ:FW K ads H it J)(q:bz K ads H Q (bq (λτ M=>bL G cond τ M) (λτ M=>(ev G elt τ M).bind own) it tg f 0 (d0 cx ρ) M [])):rl cx (tG K tg) (cond.map λt=>@lS never K (dm G t)) (@tE never K (ev G elt)) σ J H Q:=by
  intro D hD;have YU:=s.mem.fresh hD
  refine⟨λi m τ H' ys=>∃aq M' lz aA,SR K aq M' lz τ H'/\ay ads aq H H'/\D∉aq/\H' D=some (.lst ys)/\aH K aq H' aA ys/\bz K ads H Q (bq (λτ M=>bL G cond τ M) (λτ M=>(ev G elt τ M).bind own) it tg m i lz M' aA),
    ⟨f,ads,M,d0 cx ρ,[],?_,(ay.refl _ _).t4 hD,YU,bW,(by unfold aH;rfl),q⟩,?_⟩
  · have g0:ay ads ads H (bH H D (.lst [])):=ay.gc s.mem hD;exact(zw s cx).grow g0 (s.mem.gc hD)
  rintro i m τ H' ys ⟨aq,M',lz,aA,s',g',dn,hl,ra,q'⟩;refine⟨hl,?_⟩;obtain⟨r1,r2⟩:=hJ i aq H' M' g' s'.mem
  have stop:itemAt M' i it=some none->bz K ads H Q (.ok (.lv aA) M')->(J.stop i H'/\Q (.ref D) H'):=λhi q' =>
    ⟨r1 hi,q' (.ref D) H' aq g' s'.mem ⟨D,ys,rfl,hD,hl,dn,ra⟩⟩
  cases m with
  | zero =>
    unfold bq at q';split at q'
    · rename_i hi
      exact .inl (stop hi q')
    · exact q'.elim
  | succ m =>
    unfold bq at q';split at q'
    · rename_i hi
      exact .inl (stop hi q')
    · rename_i d hi
      obtain⟨go,yl⟩:=r2 d hi
      cases hb:bR tg d lz with
      | none=>rw[hb]at q';exact q'.elim
      | some qH =>
        rw[hb]at q';dsimp only at q';split at q'
        · rename_i hz
          refine .inr ⟨go,by rw[<- ra.len];exact hz,λx H2 y=>?_⟩;obtain⟨g2,m2,rd⟩:=yl x H2 y;have OJ:H2 D=some (.lst ys):=g2.kept D _ dn hl;refine⟨aq,M',lz,d,s'.grow g2 m2,rd,qH,hb,λAN s2=>?_⟩
          have eg : ∀ b M3 H3 dv, ay aq dv H2 H3 -> aM K dv H3 M3 -> bz K ads H Q (if b = true then ((ev G elt qH M3).bind own).b0 fun x M => bq (fun τ M => bL G cond τ M) (fun τ M => (ev G elt τ M).bind own) it tg m (i + 1) qH M (aA ++ [x]) else bq (fun τ M => bL G cond τ M) (fun τ M => (ev G elt τ M).bind own) it tg m (i + 1) qH M3 aA) ->
              (if b=true then @tE never K (ev G elt) AN H3 λv H4=>H4 D=some (.lst ys)/\∃m',m'<m+1/\∃aq M' lz aA,SR K aq M' lz AN (bH H4 D (.lst (ys++[v])))/\ay ads aq H (bH H4 D (.lst (ys++[v])))/\D∉aq/\(bH H4 D (.lst (ys++[v]))) D=some (.lst (ys++[v]))/\aH K aq (bH H4 D (.lst (ys++[v]))) aA (ys++[v])/\bz K ads H Q (bq (λτ M=>bL G cond τ M) (λτ M=>(ev G elt τ M).bind own) it tg m' (i+1) lz M' aA)
               else ∃m',m'<m+1/\∃aq M' lz aA,SR K aq M' lz AN H3/\ay ads aq H H3/\D∉aq/\H3 D=some (.lst ys)/\aH K aq H3 aA ys/\bz K ads H Q (bq (λτ M=>bL G cond τ M) (λτ M=>(ev G elt τ M).bind own) it tg m' (i+1) lz M' aA)):=by
            intro b M3 H3 dv g3 m3 q3;have Ur:D∉dv:=g3.fj dn OJ;have Us:H3 D=some (.lst ys):=g3.kept D _ dn OJ;have s3:=s2.grow g3 m3;have gg:=(g'.trans g2).trans g3;have WE:=(g2.trans g3).l9 _ _ ra
            cases b with
            | false =>
              rw[aT (by simp)]at q3⊢;exact⟨m,uN _,dv,M3,qH,aA,s3,gg,Ur,Us,WE,q3⟩
            | true =>
              rw[aG rfl]at q3⊢;refine⟨dv,M3,qH,s3,?_⟩
              cases he:ev G elt qH M3 with
              | ok w M4 =>
                rw[he]at q3;intro v H4 Cu g4 m4 r4;have q3:bz K ads H Q ((own w M4).b0 λx M=>bq (λτ M=>bL G cond τ M) (λτ M=>(ev G elt τ M).bind own) it tg m (i+1) qH M (aA++[x])):=q3;have P1:H4 D=some (.lst ys):=g4.kept D _ Ur Us;refine⟨P1,m,uN _,?_⟩
                cases ho:own w M4 with
                | ok dd M5 =>
                  rw[ho]at q3;obtain⟨CL,g5,m5,YV⟩:=nX s3.mem g4 m4 r4 ho;have WG:D∉CL:=g5.fj Ur Us;have tk:TF H4 (bH H4 D (.lst (ys++[v]))):=⟨λb xs e=>by rw[ax (λz=>by subst z;rw[P1]at e;cases e)];exact e,λb o u e=>by rw[ax (λz=>by subst z;rw[P1]at e;cases e)];exact e,λb gs e=>by rw[ax (λz=>by subst z;rw[P1]at e;cases e)];exact e⟩;have m6:aM K CL (bH H4 D (.lst (ys++[v]))) M5:=m5.keep tk λa ha=>ax (λz=>by subst z;exact WG ha)
                  have YW:O6 K CL (bH H4 D (.lst (ys++[v]))) qH AN:=λj d e=>by
                    obtain⟨u,e1,r⟩:=g5.Wr s3.en j d e;exact⟨u,e1,RD.keep tk _ _ r⟩
                  exact⟨CL,M5,qH,aA++[dd],⟨m6,YW,s3.ln⟩,(gg.trans g5).t4 hD,WG,bW,aH.keep tk _ _ ((g5.l9 _ _ WE).app (.one YV)),q3⟩
                | err _ _=>cases w<;>cases ho
                | aa=>cases w<;>cases ho
              | err _ _=>rw[he]at q3;exact q3
              | aa=>rw[he]at q3;exact q3
          cases cond with
          | none =>
            exact eg true M' H2 aq (ay.refl _ _) m2 q'
          | some t =>
            show @lS never K (dm G t) AN H2 _;refine⟨aq,M',qH,s2,?_⟩;have q':bz K ads H Q ((dm G t qH M').b0 λb M=>if b=true then ((ev G elt qH M).bind own).b0 λx M=>bq (λτ M=>bL G (some t) τ M) (λτ M=>(ev G elt τ M).bind own) it tg m (i+1) qH M (aA++[x]) else bq (λτ M=>bL G (some t) τ M) (λτ M=>(ev G elt τ M).bind own) it tg m (i+1) qH M aA):=q'
            cases ht:dm G t qH M' with
            | ok b M3 =>
              rw[ht]at q';intro H3 dv g3 m3;exact eg b M3 H3 dv g3 m3 q'
            | err _ _=>rw[ht]at q';exact q'
            | aa=>rw[ht]at q';exact q'
        · exact q'.elim
    · exact q'.elim
end
end
section
variable [EX]
variable {kk:Nat} {G:bo}
theorem og{e:Expr}(h:dY e=true)(env:Env):∀x,foldedSetIterable e env x=pure x:=by
 intro x;cases e<;>first | rfl | exact absurd (show false=true from h) aI
theorem Jg{X:Cx}{cc:CC}{k:SK}{cU:List C}{tg:List Nat}{cond:Option dU}{elt:C}{cx:List (Option Nat)}{el t aD:Expr}{ifs:List Expr}{sc:Scope}{pos:Pos}(g:Good kk X cc G)(zx:pW cc sc=true)(yG:cx=lb cc sc)(kG:dY aD=true)(zy:PI X t aD (tI X.K (cP G k cU)))(Ut:gT (mL cc sc) tg t=true)(iP:Cs (mL cc sc) cond ifs=true)(RG:∀t,cond=some t->∀X':Cx,X'.K=X.K->@Good never kk X' (mL cc sc) G->∀e,jw (mL cc sc) t e=true->PT X' e (@lS never X'.K (dm G t)))(YX:∀X':Cx,X'.K=X.K->@Good never kk X' (mL cc sc) G->PE X' el (@tE never X'.K (ev G elt))):∃(wi:TI) (cl:(X:Cx)->Prop),True/\PE X (.ListComp el [⟨t,aD,ifs,0⟩] sc pos) (tE X.K (ev G (.comp k cU tg cond elt cx))):=by
 refine⟨λ_ _ _=>True,λ_=>True,True.intro,?_⟩;intro pins s σ H Q I q;obtain⟨h1,h2,h3,h4,h5⟩:=j6 zx
 obtain⟨cl,RJ⟩:=tZ (X:=X) (sc:=sc) λy hy hf=>by
  obtain⟨_,ho⟩:=h5 y hy hf;refine I.ok.has y.1 ?_;rcases ho with ho | ho
  ·exact .inl (g.kinds _ _ ho)
  ·exact g.kinds _ _ ho
 have ck:jn X sc (dX sc) cx cl t el ifs (tG X.K tg) (cond.map λt=>@lS never X.K (dm G t)) (@tE never X.K (ev G elt)):=by
  refine⟨h1,h2,h3,RJ,yG▸zv g zx,λC s H fp=>(by have gb:=g.block (cl:=cl) zx C s H fp;letI:=never;exact iM gb Ut),?_,λC s H fp=>YX _ rfl (g.block zx C s H fp)⟩
  cases cond with
  | none =>
   cases ifs with
   | nil=>rfl
   | cons _ _=>cases iP
  | some tt =>
   cases ifs with
   | nil=>cases iP
   | cons e es =>
    cases es with
    | cons _ _=>cases iP
    | nil=>exact⟨e,rfl,λC s H fp=>RG tt rfl (X.block sc cl C (dX sc) s H fp []) rfl (g.block zx C s H fp) e iP⟩
 refine B0 g.calm zy ck (og kG X.env) pins s σ H Q I ?_;obtain⟨ads,M,ρ,sr,q⟩:=q;refine⟨ads,M,ρ,sr,?_⟩
 have q:bz X.K ads H Q ((cP G k cU ρ M).bind λit M=>bq (λτ M=>bL G cond τ M) (λτ M=>(ev G elt τ M).bind own) it tg (cO M it) 0 (d0 cx ρ) M []):=by
  simp only[nS]at q;unfold cP
  cases hw:cI G cU ρ M with
  | ok ws M1=>rw[hw]at q;exact q
  | err _ _=>rw[hw]at q;exact q
  | aa=>rw[hw]at q;exact q
 cases hs:cP G k cU ρ M with
 | ok it M1 =>
  rw[hs]at q;intro J H1 ag g1 m1 rj;exact p5 (sr.grow g1 m1) rj (bz.shift (o:=bq (λτ M=>bL G cond τ M) (λτ M=>(ev G elt τ M).bind own) it tg (cO M1 it) 0 (d0 cx ρ) M1 []) q g1 sr.mem m1)
 | err _ _=>rw[hs]at q;exact q
 | aa=>rw[hs]at q;exact q
end
theorem dg[EX]{X:Cx}{cc:CC}{G:bo}{c:C}{e:Expr}(h:(gC e&&bB cc c e)=true)(k:bB cc c e=true->PE X e (tE X.K (ev G c))):PT X e (lS X.K (dm G (.val c))):=Cz ((aF _ _).mp h).1 (k ((aF _ _).mp h).2)
mutual
theorem aU{kk:Nat}{G:bo}:∀(c:C)(ex:EX)(cc:CC)(X:Cx)(e:Expr),@Good ex kk X cc G->bB cc c e=true->PE X e (@tE ex X.K (ev G c))
 | .eZ i,ex,cc,X,e,g,h=>Pt g.dA h
 | .a8 d,ex,cc,X,e,g,h=>FQ h
 | .bin op a b,ex,cc,X,e,g,h=>Pu (λe h=>aU a ex cc X e g h) (λe h=>aU b ex cc X e g h) h
 | .cmp op a b,ex,cc,X,e,g,h=>(FR g.dA (λe h=>aU a ex cc X e g h) (λe h=>aU b ex cc X e g h) h).1
 | .chain o1 o2 a b c,ex,cc,X,e,g,h=>(tK g.dA (λe h=>aU a ex cc X e g h) (λe h=>aU b ex cc X e g h) (λe h=>aU c ex cc X e g h) h).1
 | .dS cs,ex,cc,X,e,g,h=>by
  refine eP (P:=λe=>PE X e _) h λop es pos h=>?_;simp only[aF,gX,uC]at h
  cases op with
  | Or=>exact absurd h.1.1 aI
  | And=>exact eQ (FT (op:=.And) cs es pos (oh cs ex cc X g) h.1.2 h.2) λσ H Q q=>q
 | .dJ cs,ex,cc,X,e,g,h=>by
  refine eP (P:=λe=>PE X e _) h λop es pos h=>?_;simp only[aF,gX,uC]at h
  cases op with
  | And=>exact absurd h.1.1.symm aI
  | Or=>exact eQ (PC cs es pos (oh cs ex cc X g) h.1.2 h.2) λσ H Q q=>q
 | .neg a,ex,cc,X,e,g,h=>Pw (λe h=>aU a ex cc X e g h) h
 | .ite t a b,ex,cc,X,e,g,h=>rH (P:=λe=>PE X e _) h λc x y pos h=>by
  simp only[aF]at h;exact PH (vS t ex cc X c g h.1.1) (aU a ex cc X x g h.1.2) (aU b ex cc X y g h.2)
 | .tup cs,ex,cc,X,e,g,h=>Px (λes h=>mN cs ex cc X es g h) h
 | .lst cs,ex,cc,X,e,g,h=>Py (λes h=>mN cs ex cc X es g h) h
 | .sub a b,ex,cc,X,e,g,h=>df (P:=λe=>PE X e _) h λe i pos h=>by
  simp only[aF]at h;exact PJ g.dA h.1.1 (aU a ex cc X e g h.1.2) (aU b ex cc X i g h.2)
 | .pG a lo hi,ex,cc,X,e,g,h=>df (P:=λe=>PE X e _) h λe i pos h=>rL (P:=λi=>PE X (.Subscript e i pos) _) h λl u st p h=>by
  simp only[aF]at h
  cases st with
  | some _=>exact absurd h.1.1.1 aI
  | none=>exact PK (aU a ex cc X e g h.1.1.2) (P2 lo ex cc X l g h.1.2) (P2 hi ex cc X u g h.2)
 | .call f cs,ex,cc,X,e,g,h=>cK (P:=λe=>PE X e _) h λfe args eD pos h=>bu (P:=λfe=>PE X (.Call fe args eD pos) _) h λx p h=>by
  rcases args with _|⟨e,es⟩<;>first | exact absurd h aI | skip
  cases eD<;>first | exact absurd h aI | skip
  simp only[aF,eT]at h;exact I_ g h.1.1.1 h.1.1.2 h.1.2 h.2 (mN cs ex cc X (e::es) g h.2)
 | .xf a f,_,_,_,_,_,h=>absurd (show false=true from h) aI
 | .B9 a k tb,_,_,_,_,_,h=>absurd (show false=true from h) aI
 | .jG f cs,_,_,_,_,_,h=>absurd (show false=true from h) aI
 | .bi b cs,ex,cc,X,e,g,h=>cK (P:=λe=>PE X e _) h λfe args eD pos h0=>bu (P:=λfe=>PE X (.Call fe args eD pos) _) h0 λx p h=>by
  clear h0
  replace h:=(aF _ _).mp h
  have h1:=h.1
  replace h:=h.2
  simp only[aF,uO]at h1;obtain⟨⟨rfl,hx⟩,hg⟩:=h1
  cases hb:ze b with
  | none =>
   rw[hb]at h;rcases args with _|⟨e,es⟩<;>first | exact absurd h aI | skip
   replace h:=(aF _ _).mp h
   have jX:az e=true/\bU cc cs.tail es=true:=by
    cases cs with
    | nil=>exact absurd h.2 aI
    | cons c cs =>
     have h':(az e&&bB cc c e&&bU cc cs es)=true:=h.2;simp only[aF]at h';exact⟨h'.1.1,h'.2⟩
   exact Um g h.1 (eq_of_beq hx) hg jX.1 jX.2 (FZ cs ex cc X (e::es) g h.2)
  | some t =>
   rw[hb]at h;obtain rfl:=rM hb;rcases args with _|⟨e,_|⟨f,_|⟨f2,fs⟩⟩⟩<;>first | exact absurd h aI | skip
   replace h:=(aF _ _).mp h
   refine bu (P:=λf=>PE X (.Call (.Name x p) [e,f] [] pos) _) h.1 λy py hy=>?_;simp only[aF,oQ]at hy;rcases cs with _|⟨c,_|⟨c2,cs⟩⟩
   ·exact absurd h.2 aI
   ·have h7:(az e&&bB cc c e&&true)=true:=h.2;simp only[aF]at h7;exact PQ g.dA (eq_of_beq hx) hg (eq_of_beq hy.1.1) hy.1.2 hy.2 h7.1.1 (aU c ex cc X e g h7.1.2)
   ·have h7:(az e&&bB cc c e&&bU cc (c2::cs) [])=true:=h.2;simp only[aF]at h7;exact absurd h7.2 aI
 | .me m o cs,ex,cc,X,e,g,h=>cK (P:=λe=>PE X e _) h λfe args eD pos h=>eB (P:=λfe=>PE X (.Call fe args eD pos) _) h λe n ap h=>by
  simp only[aF,uO]at h;obtain⟨⟨⟨⟨⟨⟨⟨rfl,h1⟩,h2⟩,h3⟩,h4⟩,h5⟩,h6⟩,h7⟩:=h;exact Up (by have:=g.rh.un;omega) (eq_of_beq h1) h2 h3 h4 h6 (of_decide_eq_true h7) (aU o ex cc X e g h5) (mN cs ex cc X args g h6)
 | .wg ks cs,ex,cc,X,e,g,h=>vP (P:=λe=>PE X e _) h λkeys vs pos h=>by
  simp only[wG,aF,gX,uC,oQ,uO]at h;rcases h with⟨⟨⟨⟨⟨h1,h2⟩,h3⟩,h4⟩,h5⟩,h6⟩|⟨⟨⟨rfl,rfl⟩,rfl⟩,rfl⟩
  ·exact PZ h1 h2 h3 h4 h5 h6 (oh cs ex cc X g)
  ·exact Jf
 | .iZ tp cs,_,_,_,_,_,h=>absurd (show false=true from h) aI
 | .vF x v,ex,cc,X,e,g,h=>bu (P:=λe=>PE X e _) h λy pos h=>by
  simp only[aF,eT]at h;obtain⟨⟨⟨rfl,h1⟩,h2⟩,h3⟩:=h;exact PY g.dA h1 h2 h3
 | .l_ ng a,_,_,_,_,_,h=>absurd (show false=true from h) aI
 | .rB x v,ex,cc,X,e,g,h=>bu (P:=λe=>PE X e _) h λy pos h=>by
  simp only[aF,eT]at h;obtain⟨⟨⟨rfl,h1⟩,h2⟩,h3⟩:=h;exact PM g h1 h2 (Bb.mp h3)
 | .pH pt a b,ex,cc,X,e,g,h=>cK (P:=λe=>PE X e _) h λfe args eD pos h=>eB (P:=λfe=>PE X (.Call fe args eD pos) _) h λe n ap h=>by
  rcases args with _|⟨x,_|⟨x2,xs⟩⟩<;>first | exact absurd h aI | skip
  cases eD<;>first | exact absurd h aI | skip
  simp only[aF]at h;obtain⟨⟨⟨⟨⟨h1,h2⟩,h3⟩,h4⟩,h5⟩,h6⟩:=h;exact PV (eq_of_beq h1) h2 h3 h4 h6 (aU a ex cc X e g h5) (aU b ex cc X x g h6)
 | .wj lit a b,ex,cc,X,e,g,h=>pU (P:=λe=>PE X e _) h λvs pos h=>by
  rcases vs with _|⟨v1,_|⟨v2,_|⟨v3,_|⟨v4,vs⟩⟩⟩⟩<;>first | exact absurd h aI | skip
  refine pV (P:=λv1=>PE X (.JoinedStr [v1,v2,v3] pos) _) h λe1 c1 s1 p1 h=>pV (P:=λv3=>PE X (.JoinedStr [.FormattedValue e1 c1 s1 p1,v2,v3] pos) _) h λe3 c3 s3 p3 h=>?_;simp only[aF,eT,Option.isNone_iff_eq_none]at h;obtain⟨⟨⟨⟨⟨⟨rfl,rfl⟩,rfl⟩,rfl⟩,h5⟩,h6⟩,h7⟩:=h;exact PX h5 (aU a ex cc X e1 g h6) (aU b ex cc X e3 g h7)
 | .vG cS a,ex,cc,X,e,g,h=>cK (P:=λe=>PE X e _) h λfe args eD pos h=>eB (P:=λfe=>PE X (.Call fe args eD pos) _) h λo n ap h=>by
  rcases args with _|⟨x,_|⟨a2,as⟩⟩<;>first | exact absurd h aI | skip
  cases eD<;>first | exact absurd h aI | skip
  simp only[aF]at h;obtain⟨⟨⟨⟨⟨h1,h2⟩,h3⟩,h4⟩,h5⟩,h6⟩:=h;exact PR (eq_of_beq h1) h2 h3 h4 h5 h6 (aU a ex cc X x g h6)
 | .cat a b,ex,cc,X,e,g,h=>PB (λe h=>aU a ex cc X e g h) (λe h=>aU b ex cc X e g h) h
 | .iA x tt b,ex,cc,X,e,g,h=>df (P:=λe=>PE X e _) h λo i pos h=>by
  simp only[aF]at h;obtain⟨⟨⟨h1,h2⟩,h3⟩,h4⟩:=h;refine bu (P:=λo=>PE X (.Subscript o i pos) _) h2 λy p h2=>?_;simp only[aF,eT]at h2;obtain⟨⟨rfl,k1⟩,k2⟩:=h2;exact Cv g.dA k1 k2 (Bb.mp h3) (lh h1) (aU b ex cc X i g h4)
 | .vH y a,ex,cc,X,e,g,h=>bu (P:=λe=>PE X e _) h λx p h=>by
  simp only[aF,eT]at h;obtain⟨⟨⟨rfl,h1⟩,h2⟩,h3⟩:=h;exact PL g h1 h2 (Bb.mp h3)
 | .dM i tb cs,ex,cc,X,e,g,h=>cK (P:=λe=>PE X e _) h λfe args eD pos h=>bu (P:=λfe=>PE X (.Call fe args eD pos) _) h λx p h=>by
  rcases args with _|⟨e,es⟩<;>first | exact absurd h aI | skip
  cases eD<;>first | exact absurd h aI | skip
  simp only[aF,eT]at h;exact CA g h.1.1.1.1 h.1.1.1.2 h.1.1.2 h.1.2 h.2 (mN cs ex cc X (e::es) g h.1.2)
 | .comp k cU tg cond elt cx,ex,cc,X,e,g,h=>gS (P:=λe=>PE X e _) h λel gens sc pos h=>by
  rcases gens with _|⟨⟨t,aD,ifs,as⟩,_|⟨_,_⟩⟩<;>first | exact absurd h aI | skip
  simp only[aF,eT,oQ]at h;obtain⟨⟨⟨⟨⟨⟨rfl,h1⟩,h2⟩,h3⟩,h4⟩,h5⟩,h6⟩:=h;obtain⟨zy,kG⟩:=rR cU k ex cc X t aD g h3;obtain⟨_,_,_,r⟩:=Jg (pos:=pos) g h1 h2 kG zy h4 h5 (λt ht X' _ g' e he=>CM cond never (mL cc sc) X' g' t ht e he) (λX' _ g'=>aU elt never (mL cc sc) X' el g' h6);exact r
theorem vS{kk:Nat}{G:bo}:∀(t:dU)(ex:EX)(cc:CC)(X:Cx)(e:Expr),@Good ex kk X cc G->jw cc t e=true->PT X e (@lS ex X.K (dm G t))
 | .val (.cmp op a b),ex,cc,X,e,g,h=>zi IY (FR g.dA (λe h=>aU a ex cc X e g h) (λe h=>aU b ex cc X e g h) h).2
 | .val (.chain o1 o2 a b c),ex,cc,X,e,g,h=>zi zj (tK g.dA (λe h=>aU a ex cc X e g h) (λe h=>aU b ex cc X e g h) (λe h=>aU c ex cc X e g h) h).2
 | .val (.eZ i),ex,cc,X,e,g,h=>dg h (aU (.eZ i) ex cc X e g)
 | .val (.a8 d),ex,cc,X,e,g,h=>dg h (aU (.a8 d) ex cc X e g)
 | .val (.bin op a b),ex,cc,X,e,g,h=>dg h (aU (.bin op a b) ex cc X e g)
 | .val (.dS cs),ex,cc,X,e,g,h=>dg h (aU (.dS cs) ex cc X e g)
 | .val (.dJ cs),ex,cc,X,e,g,h=>dg h (aU (.dJ cs) ex cc X e g)
 | .val (.neg a),ex,cc,X,e,g,h=>dg h (aU (.neg a) ex cc X e g)
 | .val (.ite t a b),ex,cc,X,e,g,h=>dg h (aU (.ite t a b) ex cc X e g)
 | .val (.tup cs),ex,cc,X,e,g,h=>dg h (aU (.tup cs) ex cc X e g)
 | .val (.lst cs),ex,cc,X,e,g,h=>dg h (aU (.lst cs) ex cc X e g)
 | .val (.sub a b),ex,cc,X,e,g,h=>dg h (aU (.sub a b) ex cc X e g)
 | .val (.pG a lo hi),ex,cc,X,e,g,h=>dg h (aU (.pG a lo hi) ex cc X e g)
 | .val (.call f cs),ex,cc,X,e,g,h=>dg h (aU (.call f cs) ex cc X e g)
 | .val (.bi b cs),ex,cc,X,e,g,h=>dg h (aU (.bi b cs) ex cc X e g)
 | .val (.me m o cs),ex,cc,X,e,g,h=>dg h (aU (.me m o cs) ex cc X e g)
 | .val (.wg ks cs),ex,cc,X,e,g,h=>dg h (aU (.wg ks cs) ex cc X e g)
 | .val (.iZ tp cs),ex,cc,X,e,g,h=>dg h (aU (.iZ tp cs) ex cc X e g)
 | .val (.l_ ng a),_,_,_,_,_,h=>absurd (show false=true from h) aI
 | .val (.vF x v),ex,cc,X,e,g,h=>dg h (aU (.vF x v) ex cc X e g)
 | .val (.rB x v),ex,cc,X,e,g,h=>dg h (aU (.rB x v) ex cc X e g)
 | .val (.pH pt a b),ex,cc,X,e,g,h=>dg h (aU (.pH pt a b) ex cc X e g)
 | .val (.wj lit a b),ex,cc,X,e,g,h=>dg h (aU (.wj lit a b) ex cc X e g)
 | .val (.vG cS a),ex,cc,X,e,g,h=>dg h (aU (.vG cS a) ex cc X e g)
 | .val (.cat a b),ex,cc,X,e,g,h=>dg h (aU (.cat a b) ex cc X e g)
 | .val (.iA x tt b),ex,cc,X,e,g,h=>dg h (aU (.iA x tt b) ex cc X e g)
 | .val (.vH y a),ex,cc,X,e,g,h=>dg h (aU (.vH y a) ex cc X e g)
 | .val (.dM i tb cs),ex,cc,X,e,g,h=>dg h (aU (.dM i tb cs) ex cc X e g)
 | .val (.xf a f),ex,cc,X,e,g,h=>dg h (aU (.xf a f) ex cc X e g)
 | .val (.B9 a k tb),ex,cc,X,e,g,h=>dg h (aU (.B9 a k tb) ex cc X e g)
 | .val (.jG f cs),ex,cc,X,e,g,h=>dg h (aU (.jG f cs) ex cc X e g)
 | .val (.comp k cU tg cond elt cx),ex,cc,X,e,g,h=>dg h (aU (.comp k cU tg cond elt cx) ex cc X e g)
 | .dS ts,ex,cc,X,e,g,h=>by
  refine eP (P:=λe=>PT X e _) h λop es pos h=>?_;simp only[aF,gX,uC]at h
  cases op with
  | Or=>exact absurd h.1.1 aI
  | And=>exact IV (FU ts es pos (zA ts ex cc X g) h.1.2 h.2).pt λσ H Q q=>q
 | .dJ ts,ex,cc,X,e,g,h=>by
  refine eP (P:=λe=>PT X e _) h λop es pos h=>?_;simp only[aF,gX,uC]at h
  cases op with
  | And=>exact absurd h.1.1.symm aI
  | Or=>exact IV (FV ts es pos (zA ts ex cc X g) h.1.2 h.2).pt λσ H Q q=>q
 | .neg t,ex,cc,X,e,g,h=>by
  refine d7 (P:=λe=>PT X e _) h λop x pos h=>?_
  replace h:=(aF _ _).mp h
  cases op<;>first | exact absurd h.1 aI | skip
  exact PF (vS t ex cc X x g h.2)
theorem mN{kk:Nat}{G:bo}:∀(cs:List C)(ex:EX)(cc:CC)(X:Cx)(es:List Expr),@Good ex kk X cc G->bU cc cs es=true->PA X es (@AR ex X.K (bh G cs))
 | [],ex,cc,X,[],g,h=>Pz
 | [],ex,cc,X,_::_,g,h=>by cases h
 | _::_,ex,cc,X,[],g,h=>by cases h
 | c::cs,ex,cc,X,e::es,g,h=>by
  have h':(az e&&bB cc c e&&bU cc cs es)=true:=h;simp only[aF]at h';exact IW h'.1.1 (aU c ex cc X e g h'.1.2) (mN cs ex cc X es g h'.2)
theorem FZ{kk:Nat}{G:bo}:∀(cs:List C)(ex:EX)(cc:CC)(X:Cx)(es:List Expr),@Good ex kk X cc G->bU cc cs es=true->PA X es (@Jc ex X.K (cI G cs))
 | [],ex,cc,X,[],g,h=>tM
 | [],ex,cc,X,_::_,g,h=>by cases h
 | _::_,ex,cc,X,[],g,h=>by cases h
 | c::cs,ex,cc,X,e::es,g,h=>by
  have h':(az e&&bB cc c e&&bU cc cs es)=true:=h;simp only[aF]at h';exact nZ h'.1.1 (aU c ex cc X e g h'.1.2) (FZ cs ex cc X es g h'.2)
theorem oh{kk:Nat}{G:bo}:∀(cs:List C)(ex:EX)(cc:CC)(X:Cx),@Good ex kk X cc G->∀c∈cs,∀e,bB cc c e=true->PE X e (@tE ex X.K (ev G c))
 | [],ex,cc,X,g,c,hc,e,h=>by cases hc
 | c::cs,ex,cc,X,g,c',hc,e,h=>by
  rcases bw.mp hc with z | z
  ·rw[z]at h⊢;exact aU c ex cc X e g h
  ·exact oh cs ex cc X g c' z e h
theorem zA{kk:Nat}{G:bo}:∀(ts:List dU)(ex:EX)(cc:CC)(X:Cx),@Good ex kk X cc G->∀t∈ts,∀e,jw cc t e=true->PT X e (@lS ex X.K (dm G t))
 | [],ex,cc,X,g,c,hc,e,h=>by cases hc
 | c::cs,ex,cc,X,g,c',hc,e,h=>by
  rcases bw.mp hc with z | z
  ·rw[z]at h⊢;exact vS c ex cc X e g h
  ·exact zA cs ex cc X g c' z e h
theorem P2{kk:Nat}{G:bo}:∀(o:Option C)(ex:EX)(cc:CC)(X:Cx)(e:Option Expr),@Good ex kk X cc G->IT cc o e=true->PO X e (@tO ex X.K (oK G o))
 | none,ex,cc,X,none,g,h=>IZ
 | none,ex,cc,X,some _,g,h=>by cases h
 | some _,ex,cc,X,none,g,h=>by cases h
 | some c,ex,cc,X,some e,g,h=>I0 (aU c ex cc X e g h)
theorem CM{kk:Nat}{G:bo}:∀(o:Option dU)(ex:EX)(cc:CC)(X:Cx),@Good ex kk X cc G->∀t,o=some t->∀e,jw cc t e=true->PT X e (@lS ex X.K (dm G t))
 | none,ex,cc,X,g,t,ht,e,h=>by cases ht
 | some c,ex,cc,X,g,t,ht,e,h=>by cases ht;exact vS c ex cc X e g h
theorem rR{kk:Nat}{G:bo}:∀(cU:List C)(k:SK)(ex:EX)(cc:CC)(X:Cx)(t aD:Expr),@Good ex kk X cc G->nW cc k cU t aD=true->PI X t aD (@tI ex X.K (cP G k cU))/\dY aD=true
 | [],k,ex,cc,X,t,aD,g,h=>by cases k<;>cases h
 | [c],.seq,ex,cc,X,t,aD,g,h=>by
  have h':(dY aD&&bB cc c aD)=true:=h;simp only[aF]at h';exact⟨CI (aU c ex cc X aD g h'.2),h'.1⟩
 | [c],.vals,ex,cc,X,t,aD,g,h=>by cases h
 | [c],.keys,ex,cc,X,t,aD,g,h=>by cases h
 | [c],.rng1,ex,cc,X,t,aD,g,h=>by
  refine cK (P:=λaD=>PI X t aD _/\dY aD=true) h λfe args eD pos h=>bu (P:=λfe=>PI X t (.Call fe args eD pos) _/\dY (.Call fe args eD pos)=true) h λx p h=>?_;rcases args with _|⟨a,_|⟨a2,as⟩⟩<;>first | exact absurd h aI | skip
  cases eD<;>first | exact absurd h aI | skip
  simp only[aF]at h;exact⟨zt g (eq_of_beq h.1.1.1) h.1.1.2 h.1.2 (aU c ex cc X a g h.2),rfl⟩
 | [c],.enum,ex,cc,X,t,aD,g,h=>by cases h
 | [c],.rng2,ex,cc,X,t,aD,g,h=>by cases h
 | [c],.zip,ex,cc,X,t,aD,g,h=>by cases h
 | [c],.B8,ex,cc,X,t,aD,g,h=>by cases h
 | [c,d],.rng2,ex,cc,X,t,aD,g,h=>by
  refine cK (P:=λaD=>PI X t aD _/\dY aD=true) h λfe args eD pos h=>bu (P:=λfe=>PI X t (.Call fe args eD pos) _/\dY (.Call fe args eD pos)=true) h λx p h=>?_;rcases args with _|⟨a,_|⟨b,_|⟨a2,as⟩⟩⟩<;>first | exact absurd h aI | skip
  cases eD<;>first | exact absurd h aI | skip
  simp only[aF]at h;exact⟨zu g (eq_of_beq h.1.1.1.1.1) h.1.1.1.1.2 h.1.1.1.2 h.1.1.2 (aU c ex cc X a g h.1.2) (aU d ex cc X b g h.2),rfl⟩
 | [c,d],.seq,ex,cc,X,t,aD,g,h=>by cases h
 | [c,d],.B8,ex,cc,X,t,aD,g,h=>by cases h
 | [c,d],.keys,ex,cc,X,t,aD,g,h=>by cases h
 | [c,d],.vals,ex,cc,X,t,aD,g,h=>by cases h
 | [c,d],.rng1,ex,cc,X,t,aD,g,h=>by cases h
 | [c,d],.enum,ex,cc,X,t,aD,g,h=>by cases h
 | [c,d],.zip,ex,cc,X,t,aD,g,h=>by
  refine cK (P:=λaD=>PI X t aD _/\dY aD=true) h λfe args eD pos h=>bu (P:=λfe=>PI X t (.Call fe args eD pos) _/\dY (.Call fe args eD pos)=true) h λx p h=>?_;rcases args with _|⟨a,_|⟨b,_|⟨a2,as⟩⟩⟩<;>first | exact absurd h aI | skip
  cases eD<;>first | exact absurd h aI | skip
  simp only[aF]at h;exact⟨CK g (eq_of_beq h.1.1.1.1.1) h.1.1.1.1.2 h.1.1.1.2 h.1.1.2 (aU c ex cc X a g h.1.2) (aU d ex cc X b g h.2),rfl⟩
 | [c,d,m],.B8,ex,cc,X,t,aD,g,h=>by cases h
 | [c,d,m],.seq,ex,cc,X,t,aD,g,h=>by cases h
 | [c,d,m],.keys,ex,cc,X,t,aD,g,h=>by cases h
 | [c,d,m],.vals,ex,cc,X,t,aD,g,h=>by cases h
 | [c,d,m],.rng1,ex,cc,X,t,aD,g,h=>by cases h
 | [c,d,m],.rng2,ex,cc,X,t,aD,g,h=>by cases h
 | [c,d,m],.enum,ex,cc,X,t,aD,g,h=>by cases h
 | [c,d,m],.zip,ex,cc,X,t,aD,g,h=>by cases h
 | _::_::_::_::_,k,ex,cc,X,t,aD,g,h=>by cases k<;>cases h
end
section
variable [EX]
set_option genCtorIdx false in
inductive TB where
 | asg (i f:Nat) (cs:List C) | Jh (i f:Nat) (cs:List C) | exp (f:Nat) (cs:List C) | Uu (i f:Nat) (cs:List C) | Uv (i f:Nat) (cs:List C)
noncomputable def TB.fn:TB->Nat
 | .asg _ f _=>f
 | .Jh _ f _=>f
 | .exp f _=>f
 | .Uu _ f _=>f
 | .Uv _ f _=>f
noncomputable def TB.args:TB->List C
 | .asg _ _ cs=>cs
 | .Jh _ _ cs=>cs
 | .exp _ cs=>cs
 | .Uu _ _ cs=>cs
 | .Uv _ _ cs=>cs
set_option genCtorIdx false in
inductive S where
 | asg (tg:List Nat) (c:C)
 | jV (i:Nat) (c:C)
 | put (o i v:C)
 | dput (o i v:C)
 | par (i j:Nat) (a b:C)
 | expr (c:C)
 | ret (c:C)
 | zB
 | iff (t:dU) (a b:List S)
 | cA (tg:List Nat) (k:SK) (cU:List C) (b:List S)
 | Ji (n:Nat) (t:dU) (b:List S)
 | Jj (a:Addr) (fs:List Str) (cs:List C)
 | vT (b:TB) (cb:Str) (mt:List (Addr×List Str)) (j:Nat) (h:List S)
 | iQ (r:Bool) (c:C)
 | never | pass | brk | cont
inductive aV where
 | nx (ρ:En) (M:af) | rt (w:W) (M:af) | bk (ρ:En) (M:af) | ct (ρ:En) (M:af) | er (x:yR) (M:af) | aa
noncomputable def aV.fv{α:Type}(o:bE α)(f:α->af->aV):aV:=match o with
 | .ok a M=>f a M
 | .err x M=>.er x M
 | .aa=>.aa
noncomputable def aV.YY(j:Nat)(o:aV):aV:=match o with
 | .nx ρ M=>.nx (ρ.set j none) M
 | _=>.aa
noncomputable def aV.tn(r:Bool)(w:W)(ρ:En)(M:af):aV:=match r with
 | true=>.rt w M
 | false=>.nx ρ M
def TB.got(b:TB)(w:W)(M:af)(ρ:En):aV:=match b with
 | .asg i _ _=>aV.fv (own w M) λd M=>.nx (ρ.set i (some d)) M
 | .Jh i _ _=>aV.fv (own w M) λd M=>.nx (ρ.set i (some (.tup [d]))) M
 | .exp _ _=>.nx ρ M
 | .Uu i _ _=>match w with
  | .d (.bl b)=>.nx (if b=true then ρ.set i (some .ba) else ρ) M
  | _=>.aa
 | .Uv i _ _=>match w with
  | .d (.bl b)=>.nx (ρ.set i (some (.bl b))) M
  | _=>.aa
noncomputable def aV.seq(o:aV)(f:En->af->aV):aV:=match o with
 | .nx ρ M=>f ρ M
 | o=>o
def cX(body:En->af->aV)(it:Ev.It)(tg:List Nat):Nat->Nat->En->af->aV
 | 0,i,ρ,M=>match itemAt M i it with
  | some none=>.nx ρ M
  | _=>.aa
 | f+1,i,ρ,M=>match itemAt M i it with
  | some none=>.nx ρ M
  | some (some d)=>match bR tg d ρ with
   | none=>.aa
   | some ρ=>match body ρ M with
    | .nx ρ M=>cX body it tg f (i+1) ρ M
    | .ct ρ M=>cX body it tg f (i+1) ρ M
    | .bk ρ M=>.nx ρ M
    | .rt w M=>.rt w M
    | .er x M=>.er x M
    | .aa=>.aa
  | none=>.aa
noncomputable def vU(Jk:En->af->bE Bool)(body:En->af->aV):Nat->En->af->aV
  | 0,_,_=>.aa
  | f+1,ρ,M=>match Jk ρ M with
    | .ok r M => if r then (match body ρ M with
        | .nx ρ M=>vU Jk body f ρ M
        | .ct ρ M=>vU Jk body f ρ M
        | .bk ρ M=>.nx ρ M
        | .rt w M=>.rt w M
        | .er x M=>.er x M
        | .aa=>.aa) else .nx ρ M
    | .err x M=>.er x M
    | .aa=>.aa
mutual
noncomputable def gp(G:bo):S->En->af->aV
 | .asg tg c,ρ,M=>aV.fv ((ev G c ρ M).bind own) λd M=>match bR tg d ρ with
  | some ρ=>.nx ρ M
  | none=>.aa
 | .jV i c,ρ,M=>aV.fv ((ev G c ρ M).bind own) λd M=>.nx (ρ.set i (some d)) M
 | .put o i v,ρ,M=>aV.fv ((ev G v ρ M).bind own) λd M=>aV.fv (ev G o ρ M) λx M=>aV.fv (ev G i ρ M) λy M=>aV.fv (iG x y d M) λ_ M=>.nx ρ M
 | .dput o i v,ρ,M=>aV.fv ((ev G v ρ M).bind own) λd M=>aV.fv (ev G o ρ M) λx M=>aV.fv (ev G i ρ M) λy M=>aV.fv (tm x y d M) λ_ M=>.nx ρ M
 | .par i j a b,ρ,M=>aV.fv (bh G [a,b] ρ M) λds M=>match ds with
  | [x,y]=>.nx ((ρ.set i (some x)).set j (some y)) M
  | _=>.aa
 | .expr c,ρ,M=>aV.fv (ev G c ρ M) λ_ M=>.nx ρ M
 | .ret c,ρ,M=>aV.fv (ev G c ρ M) λw M=>.rt w M
 | .zB,_,M=>.rt (.d .ba) M
 | .iff t a b,ρ,M=>aV.fv (dm G t ρ M) λr M=>if r then cm G a ρ M else cm G b ρ M
 | .cA tg k cU b,ρ,M=>aV.fv (cP G k cU ρ M) λit M=>cX (λρ M=>cm G b ρ M) it tg (cO M it) 0 ρ M
 | .Ji n t b,ρ,M=>vU (λρ M=>dm G t ρ M) (λρ M=>cm G b ρ M) n ρ M
 | .Jj a f c,ρ,M=>aV.fv (bh G c ρ M) λds M=>.er ⟨a,f.zip ds⟩ M
 | .vT b _ mt j h,ρ,M=>match bh G b.args ρ M with
  | .ok ds M1=>match G b.fn ds M1 with
   | .ok w M2=>b.got w M2 ρ
   | .err x M2=>if mt.lookup x.cls=some (x.fs.map (·.1)) then (cm G h (ρ.set j (some (.aB M2.length))) (M2++[.xc x.cls x.fs])).YY j else .aa
   | .aa=>.aa
  | _=>.aa
 | .iQ r c,ρ,M=>match ev G c ρ M with
  | .ok w M=>aV.tn r w ρ M
  | _=>.aa
 | .never,_,_=>.aa
 | .pass,ρ,M=>.nx ρ M
 | .brk,ρ,M=>.bk ρ M
 | .cont,ρ,M=>.ct ρ M
noncomputable def cm(G:bo):List S->En->af->aV
 | [],ρ,M=>.nx ρ M
 | s::ss,ρ,M=>(gp G s ρ M).seq λρ M=>cm G ss ρ M
end
section
variable {G:bo} {lo hi:Option C} {cond:Option dU}
theorem t5 : gp G (.asg tg c) ρ M = (aV.fv ((ev G c ρ M).bind own) fun d M => match bR tg d ρ with
    | some ρ=>.nx ρ M
    | none=>.aa):=rfl
theorem p6:gp G (.jV i c) ρ M=aV.fv ((ev G c ρ M).bind own) λd M=>.nx (ρ.set i (some d)) M:=rfl
theorem t6:gp G (.put o i v) ρ M=aV.fv ((ev G v ρ M).bind own) λd M=>aV.fv (ev G o ρ M) λx M=>aV.fv (ev G i ρ M) λy M=>aV.fv (iG x y d M) λ_ M=>.nx ρ M:=rfl
theorem zC:gp G (.dput o i v) ρ M=aV.fv ((ev G v ρ M).bind own) λd M=>aV.fv (ev G o ρ M) λx M=>aV.fv (ev G i ρ M) λy M=>aV.fv (tm x y d M) λ_ M=>.nx ρ M:=rfl
theorem CN : gp G (.par i j a b) ρ M = (aV.fv (bh G [a, b] ρ M) fun ds M => match ds with
    | [x,y]=>.nx ((ρ.set i (some x)).set j (some y)) M
    | _=>.aa):=rfl
theorem p7:gp G (.expr c) ρ M=aV.fv (ev G c ρ M) λ_ M=>.nx ρ M:=rfl
theorem t7:gp G (.ret c) ρ M=aV.fv (ev G c ρ M) λw M=>.rt w M:=rfl
theorem t9:gp G (.iff t a b) ρ M=aV.fv (dm G t ρ M) λr M=>if r then cm G a ρ M else cm G b ρ M:=rfl
theorem p9:gp G (.cA tg k cU b) ρ M=aV.fv (cP G k cU ρ M) λit M=>cX (λρ M=>cm G b ρ M) it tg (cO M it) 0 ρ M:=rfl
theorem CO:gp G (.Ji n t b) ρ M=vU (λρ M=>dm G t ρ M) (λρ M=>cm G b ρ M) n ρ M:=rfl
theorem CP{f:List Str}{c:List C}:gp G (.Jj a f c) ρ M=aV.fv (bh G c ρ M) λds M=>.er ⟨a,f.zip ds⟩ M:=rfl
theorem p_ {r : Bool} {c : C} : gp G (.iQ r c) ρ M = (match ev G c ρ M with
    | .ok w M=>aV.tn r w ρ M
    | _=>.aa):=rfl
theorem qa:cm G [] ρ M=.nx ρ M:=rfl
theorem mO:cm G (s::ss) ρ M=(gp G s ρ M).seq λρ M=>cm G ss ρ M:=rfl
end
noncomputable def dw(e:Expr):Bool:=Nat.beq e.ctorIdx 8||(Nat.beq e.ctorIdx 9||Nat.beq e.ctorIdx 10)
def F0(cc:CC)(t v:Expr):Bool:=(!dw v && !(j5 t&&j5 v))||cC t λx _=>cc.names.lookup x==some .cell
noncomputable def zD(e:Stmt)(f:List Stmt->List ExceptHandler->List Stmt->List Stmt->Pos->Bool):Bool:=if h:e.ctorIdx=17 then Stmt.Try.elim (motive_2:=λ_=>Bool) e h f else false
theorem zE{P:Stmt->Prop}{e:Stmt}{f:List Stmt->List ExceptHandler->List Stmt->List Stmt->Pos->Bool}(h:zD e f=true)(k:∀a b c d e,f a b c d e=true->P (.Try a b c d e)):P e :=
 Stmt.Try.elim (motive_2:=λe=>zD e f=true->P e) e (bN h) (λa b c d e h=>k a b c d e h) h
mutual
noncomputable def Jl(cc:CC):S->Stmt->Bool
 | .asg tg c,s=>gk s λts v _=>match ts with
  | [t]=>gT cc tg t&&F0 cc t v&&(!dw v||Nat.beq v.ctorIdx 8)&&bB cc c v
  | _=>false
 | .jV i c,s=>gk s λts v _=>match ts with
  | [t]=>cC t λx p=>fD v λel gens sc q=>cc.N[i]? == some x&&cc.names.lookup x==some .local&&p.line==q.line && !(sc.names.any λ(n,k)=>n==x&&(k == .local||k == .cell))&&bB cc c (.ListComp el gens sc q)
  | _=>false
 | .put o i v,s=>gk s λts w _=>match ts with
  | [t]=>cW t λe f _=>gB f&&bB cc o e&&bB cc i f&&bB cc v w
  | _=>false
 | .dput o i v,s=>false
 | .par i j a b,s=>false
 | .expr c,s=>k_ s λe _=>!dw e&&bB cc c e
 | .ret c,s=>gh s λo _=>match o with
  | some e=>bB cc c e
  | none=>false
 | .zB,s=>false
 | .iff t a b,s=>IP s λc x y _=>jw cc t c&&gq cc a x&&gq cc b y
 | .cA tg k cU b,s=>za s λt aD body P4 _=>P4.isEmpty&&nW cc k cU t aD&&gT cc tg t&&gq cc b body
 | .Ji _ t b,s=>false
 | .Jj a f c,s=>false
 | .vT b cb mt j h,s=>false
 | .iQ r c,s=>zD s λbody hs P4 fin _=>P4.isEmpty&&fin.isEmpty && !hs.isEmpty&&(match body with
  | [st]=>(match r with
   | true=>gh st λo _=>(match o with
    | some e=>bB cc c e
    | none=>false)
   | false=>k_ st λe _=>!dw e&&bB cc c e)
  | _=>false)
 | .never,_=>true
 | .pass,s=>false
 | .brk,s=>false
 | .cont,s=>false
noncomputable def gq(cc:CC):List S->List Stmt->Bool
 | [],[]=>true
 | s::ss,t::ts=>Jl cc s t&&gq cc ss ts
 | _,_=>false
end
def mP(K:PySem.W.Frag)(ads:List Addr)(H:Hp)(D:kj):aV->Prop
 | .nx ρ M=>∀cE H' aq,ay ads aq H H'->SR K aq M ρ cE H'->D.nx cE H'
 | .bk ρ M=>∀cE H' aq,ay ads aq H H'->SR K aq M ρ cE H'->D.bk cE H'
 | .ct ρ M=>∀cE H' aq,ay ads aq H H'->SR K aq M ρ cE H'->D.ct cE H'
 | .rt w M=>jJ K ads H w M D.rt
 | .er x M=>EX.post K ads H x M
 | .aa=>False
def mQ(K:PySem.W.Frag)(o:En->af->aV):TS:=λD σ H=>∃ads M ρ,SR K ads M ρ σ H/\mP K ads H D (o ρ M)
theorem mP.shift{K:PySem.W.Frag}{ads aq:List Addr}{H H':Hp}{M M2:af}{D:kj}{o:aV}(p:mP K ads H D o)(g:ay ads aq H H')(m:aM K ads H M)(m':aM K aq H' M2):mP K aq H' D o:=by
 cases o with
 | nx ρ M=>exact λσ H1 ag g1 s1=>p σ H1 ag (g.trans g1) s1
 | bk ρ M=>exact λσ H1 ag g1 s1=>p σ H1 ag (g.trans g1) s1
 | ct ρ M=>exact λσ H1 ag g1 s1=>p σ H1 ag (g.trans g1) s1
 | rt w M=>exact jJ.shift p g m m'
 | er x M=>exact EX.shift p g
 | aa=>exact p
theorem AU{X:Cx}{st:Stmt}{t u:TS}(h:PS X st t)(f:∀D σ H,u D σ H->t D σ H):PS X st u:=λpins s σ H D I q=>h pins s σ H D I (f D σ H q)
theorem P5{X:Cx}{st:List Stmt}{t u:TS}(h:u4 X st t)(f:∀D σ H,u D σ H->t D σ H):u4 X st u:=λpins s σ H D I q=>h pins s σ H D I (f D σ H q)
section
variable {kk:Nat} {X:Cx} {cc:CC} {G:bo}
theorem j7{e:Expr}(h:dw e=false)(t:Option Expr)(l:Nat)(env:Env):swapsWith e t l env=pure false:=by
 cases e<;>first | rfl | exact absurd (show true=false from h).symm aI
theorem P6{K:PySem.W.Frag}{o:En->af->aV}{k:En->af->aV}{σ:L2.St}{H:Hp}{D:kj}(h:mQ K (λρ M=>(o ρ M).seq k) D σ H):N2 (mQ K o) (mQ K k) D σ H:=by
 obtain⟨ads,M,ρ,s,q⟩:=h;have q:mP K ads H D ((o ρ M).seq k):=q;refine⟨ads,M,ρ,s,?_⟩
 cases hq:o ρ M with
 | nx Je M1 =>
  rw[hq]at q;intro V9 H1 ag g1 s1;exact⟨ag,M1,Je,s1,mP.shift (o:=k Je M1) q g1 s.mem s1.mem⟩
 | bk ρ M=>rw[hq]at q;exact q
 | ct ρ M=>rw[hq]at q;exact q
 | rt w M=>rw[hq]at q;exact q
 | er x M=>rw[hq]at q;exact q
 | aa=>rw[hq]at q;exact q
theorem CQ {K : PySem.W.Frag} {body : En -> af -> aV} {it : Ev.It} {J : L2.It} {tg : List Nat} {tb : TS} (hb : ∀ D σ H, mQ K body D σ H -> tb D σ H) {ads : List Addr} {M : af} {ρ : En} {σ : L2.St} {H : Hp} {D : kj} {f : Nat}
    (s:SR K ads M ρ σ H) (hJ:FW K ads H it J) (q:mP K ads H D (cX body it tg f 0 ρ M)) :
    ∃W:Nat->Nat->L2.St->Hp->Prop,(∃m,W 0 m σ H)/\∀i m σ H,W i m σ H ->
      (J.stop i H/\D.nx σ H)\/(J.go i H/\∃N:L2.St->Hp->Prop,(∀cE H',N cE H'->∃m',m'<m/\W (i+1) m' cE H')/\∀x H',J.N7 i H x H'->tG K tg x σ H' λHm H2=>tb {D with nx:=N,ct:=N,bk:=D.nx} Hm H2):=by
  refine⟨λi m cE H'=>∃aq M' d4,SR K aq M' d4 cE H'/\ay ads aq H H'/\mP K ads H D (cX body it tg m i d4 M'),⟨f,ads,M,ρ,s,ay.refl _ _,q⟩,?_⟩;rintro i m cE H' ⟨aq,M',d4,s',g',q'⟩;obtain⟨r1,r2⟩:=hJ i aq H' M' g' s'.mem
  cases m with
  | zero =>
    unfold cX at q';split at q'
    · rename_i hi
      exact .inl ⟨r1 hi,q' cE H' aq g' s'⟩
    · exact q'.elim
  | succ m =>
    unfold cX at q';split at q'
    · rename_i hi
      exact .inl ⟨r1 hi,q' cE H' aq g' s'⟩
    · rename_i d hi
      obtain⟨go,yl⟩:=r2 d hi
      cases Uw:bR tg d d4 with
      | none=>rw[Uw]at q';exact q'.elim
      | some Je =>
        rw[Uw]at q';dsimp only at q';refine .inr ⟨go,λHm H2=>∃aX M2 Jm,SR K aX M2 Jm Hm H2/\ay ads aX H H2/\mP K ads H D (cX body it tg m (i+1) Jm M2),λHm H2 h=>⟨m,uN _,h⟩,λx H2 y=>?_⟩;obtain⟨g2,m2,rd⟩:=yl x H2 y;refine⟨aq,M',d4,d,s'.grow g2 m2,rd,Je,Uw,λHm s2=>hb _ _ _ ⟨aq,M',Je,s2,?_⟩⟩;have gg:=g'.trans g2
        cases hq:body Je M' with
        | nx RK M3=>rw[hq]at q';exact λBx H3 dv g3 s3=>⟨dv,M3,RK,s3,gg.trans g3,q'⟩
        | ct RK M3=>rw[hq]at q';exact λBx H3 dv g3 s3=>⟨dv,M3,RK,s3,gg.trans g3,q'⟩
        | bk RK M3=>rw[hq]at q';exact λBx H3 dv g3 s3=>q' Bx H3 dv (gg.trans g3) s3
        | rt w M3=>rw[hq]at q';exact jJ.shift (M:=M) (M2:=M') q' gg s.mem s2.mem
        | er x M3=>rw[hq]at q';exact EX.shift (show EX.post K ads H _ _ from q') gg
        | aa=>rw[hq]at q';exact q'.elim
    · exact q'.elim
theorem Ux{K:PySem.W.Frag}{ads:List Addr}{M:af}{ρ:En}{σ:L2.St}{H:Hp}{D:kj}{o:En->af->bE W}{k:W->af->aV}{R:V->Hp->Prop}(s:SR K ads M ρ σ H)(q:mP K ads H D (aV.fv (o ρ M) k))(hk:∀w M1 v H1 ag,SR K ag M1 ρ σ H1->RW K ag H1 w v->mP K ag H1 D (k w M1)->R v H1):tE K o σ H R:=by
 refine⟨ads,M,ρ,s,?_⟩
 cases hq:o ρ M with
 | ok w M1 =>
  rw[hq]at q;intro v H1 ag g1 m1 r1;exact hk w M1 v H1 ag (s.grow g1 m1) r1.rw (mP.shift (o:=k w M1) q g1 s.mem m1)
 | err _ _=>rw[hq]at q;exact q
 | aa=>rw[hq]at q;exact q
theorem Jn{K:PySem.W.Frag}{ads:List Addr}{M:af}{ρ:En}{σ:L2.St}{H:Hp}{D:kj}{c:C}{k:Ev.D->af->aV}{R:V->Hp->Prop}(s:SR K ads M ρ σ H)(q:mP K ads H D (aV.fv ((ev G c ρ M).bind own) k))(hk:∀(d:Ev.D) M1 v H1 ag,SR K ag M1 ρ σ H1->RD K ag H1 d v->mP K ag H1 D (k d M1)->R v H1):tE K (ev G c) σ H R:=by
 refine⟨ads,M,ρ,s,?_⟩
 cases hq:ev G c ρ M with
 | ok w M1 =>
  rw[hq]at q;intro v H1 ag g1 m1 r1;have q:mP K ads H D (aV.fv (own w M1) k):=q
  cases ho:own w M1 with
  | ok d M2 =>
   rw[ho]at q;obtain⟨aX,g2,m2,rd⟩:=nX s.mem g1 m1 r1 ho;exact hk d M2 v H1 aX (s.grow g2 m2) rd (mP.shift (o:=k d M2) q g2 s.mem m2)
  | err _ _=>cases w<;>cases ho
  | aa=>cases w<;>cases ho
 | err _ _=>rw[hq]at q;exact q
 | aa=>rw[hq]at q;exact q
theorem CS{tg:List Nat}{t:Expr}(h:gT cc tg t=true):(∃x p,t=.Name x p)\/∃es k p,t=.Tuple es k p:=by
 rcases tg with _|⟨i,_|⟨j,r⟩⟩
 ·exact absurd h aI
 ·exact .inl (bu (P:=λt=>∃x p,t=.Name x p) ((aF _ _).mp h).1 λx p _=>⟨x,p,rfl⟩)
 ·exact .inr (hU (P:=λt=>∃es k p,t=.Tuple es k p) h λes k p _=>⟨es,k,p,rfl⟩)
theorem mR{el:Expr}{gens:List Comprehension}{sc:Scope}{q p:Pos}{x:Str}{l:Nat}{env:Env}:swapsWith (.ListComp el gens sc q) (some (.Name x p)) l env=pure (env.blockKind == .function&&env.kindOf x==some .local&&p.line==q.line && !(sc.names.any λ(n,k)=>n==x&&(k == .local||k == .cell))):=rfl
theorem P7{tg:List Nat}{c:C}{t v:Expr}{pos:Pos}(g:eE kk X cc G)(hg:PG X t (tG X.K tg))(ht:gT cc tg t=true)(hv:F0 cc t v=true)(YZ:dw v=true->∃el gens sc q,v=.ListComp el gens sc q)(he:PE X v (tE X.K (ev G c))):PS X (.Assign [t] v pos) (mQ X.K (gp G (.asg tg c))):=by
 have mE:∀D σ H,mQ X.K (gp G (.asg tg c)) D σ H->N6 (tE X.K (ev G c)) (tG X.K tg) D σ H:=by
  intro D σ H q;obtain⟨ads,M,ρ,s,q⟩:=q;refine Jn s (by simp only[t5]at q;exact q) λd M1 v H1 ag s1 rd q1=>?_
  cases hb:bR tg d ρ with
  | none=>simp only[hb]at q1;exact q1.elim
  | some d4 =>
   simp only[hb]at q1;exact⟨ag,M1,ρ,d,s1,rd,d4,hb,λcE s'=>q1 cE H1 ag (ay.refl _ _) s'⟩
 rcases CS ht with⟨x,p,rfl⟩|⟨es,k,p,rfl⟩
 ·refine AU (qO he hg ?_ (by unfold swappedStores;cases v<;>rfl) rfl) mE;show swapsWith v (some (.Name x p)) pos.line X.env=pure false
  cases hc:dw v with
  | false=>exact j7 hc _ _ _
  | true =>
   have hv:((!dw v && !(false&&j5 v))||(cc.names.lookup x==some .cell))=true:=hv;rw[hc]at hv;have hk:X.env.kindOf x=some .cell:=g.kinds x .cell (by simpa using hv);obtain⟨el,gens,sc,q,rfl⟩:=YZ hc;rw[mR,hk,show((some NameKind.cell:Option NameKind)==some NameKind.local)=false from rfl];simp
 ·have Uy:((!dw v && !(true&&j5 v))||false)=true:=hv;simp only[Bool.or_false,Bool.true_and,aF,gX]at Uy;refine AU (qO he hg (show swapsWithSole [.Tuple es k p] v pos.line X.env=pure false from j7 Uy.1 (some (.Tuple es k p)) pos.line X.env) ?_ rfl) mE;unfold swappedStores;cases v<;>first | rfl | exact absurd (show true=false from Uy.2).symm aI
theorem Jo{i:Nat}{c:C}{x:Str}{p q pos:Pos}{el t aD:Expr}{ifs:List Expr}{sc:Scope}{N':List Str}{cx:List (Option Nat)}{wi:TI}{gt:TG}{tc:Option TT}{te:TE}(g:Good kk X cc G)(hk:X.env.blockKind=.function)(hx:cc.N[i]?=some x)(hl:cc.names.lookup x=some .local)(hp:p.line=q.line)(hn:(sc.names.any λ(n,k)=>n==x&&(k == .local||k == .cell))=false)(hw:∀(pins:List (Addr×Obj))(s:Shared)(σ:L2.St)(H:Hp),Inv X pins σ H s->∃cl,PI X t aD wi/\jn X sc N' cx cl t el ifs gt tc te)(Ps:∀x,foldedSetIterable aD X.env x=pure x)(mE:∀σ H Q,tE X.K (ev G c) σ H Q->sV cx wi gt tc te σ H Q):PS X (.Assign [.Name x p] (.ListComp el [⟨t,aD,ifs,0⟩] sc q) pos) (mQ X.K (gp G (.jV i c))):=by
 intro pins s σ H D I h;obtain⟨cl,hi,ck⟩:=hw pins s σ H I;refine B1 (i:=i) g.calm (by rw[g.N];exact g.nd) (by rw[g.N];exact hx) (g.kinds x _ hl) ?_ hi ck Ps pins s σ H D I ?_
 ·rw[mR,hk,show X.env.kindOf x=some .local from g.kinds x _ hl,hn,hp];simp
 ·obtain⟨ads,M,ρ,sr,h⟩:=h;refine mE σ H _ (Jn sr (by simp only[p6]at h;exact h) λd M1 v H1 ag s1 rd q1=>?_);exact q1 _ H1 ag (ay.refl _ _) (s1.set i rd)
theorem P8{o i v:C}{e f w:Expr}{sp pos:Pos}(g:Good kk X cc G)(hf:gB f=true)(ho:PE X e (tE X.K (ev G o)))(hi:PE X f (tE X.K (ev G i)))(hv:PE X w (tE X.K (ev G v))):PS X (.Assign [.Subscript e f sp] w pos) (mQ X.K (gp G (.put o i v))):=by
 have Ul:=g.rh.un;refine AU (qO hv (Hl ho hi (IL ∅) (by intro _;cases f<;>first | rfl | exact absurd (show false=true from hf) aI)) (show swapsWithSole [.Subscript e f sp] w pos.line X.env=pure false from (by cases w<;>rfl)) (by unfold swappedStores;cases w<;>rfl) rfl) λD σ H q=>?_;obtain⟨ads,M,ρ,s,q⟩:=q;refine Jn s (by simp only[t6]at q;exact q) λd M1 v H1 ag s1 rd q1=>?_;refine⟨ag,M1,ρ,s1,?_⟩
 cases h2:ev G o ρ M1 with
 | ok wo M2 =>
  rw[h2]at q1;intro vo H2 aX g2 m2 ro;have s2:=s1.grow g2 m2;refine⟨aX,M2,ρ,s2,?_⟩;have q2:mP X.K ag H1 D (aV.fv (ev G i ρ M2) λy M=>aV.fv (iG wo y d M) λ_ M=>.nx ρ M):=q1
  cases h3:ev G i ρ M2 with
  | ok wi M3 =>
   rw[h3]at q2;intro vi H3 dv g3 m3 ri;have s3:=s2.grow g3 m3;have q3:mP X.K ag H1 D (aV.fv (iG wo wi d M3) λ_ M=>.nx ρ M):=q2;refine⟨dv,M3,wo,wi,d,m3,g3.rw ro.rw,ri.rw,(g2.trans g3).rd _ _ rd,?_⟩
   cases h4:iG wo wi d M3 with
   | ok u M4 =>
    rw[h4]at q3;intro H4 Cu g4 m4;exact q3 σ H4 Cu ((g2.trans g3).trans g4) (s3.grow g4 m4)
   | err _ _=>rw[h4]at q3;exact EX.shift (show EX.post X.K ag H1 _ _ from q3) (g2.trans g3)
   | aa=>rw[h4]at q3;exact q3
  | err _ _=>rw[h3]at q2;exact EX.shift (show EX.post X.K ag H1 _ _ from q2) g2
  | aa=>rw[h3]at q2;exact q2
 | err _ _=>rw[h2]at q1;exact q1
 | aa=>rw[h2]at q1;exact q1
theorem Jp{c:C}{e:Expr}{pos:Pos}(hc:dw e=false)(he:PE X e (tE X.K (ev G c))):PS X (.Expr e pos) (mQ X.K (gp G (.expr c))):=by
 refine AU (sN he (j7 hc _ _ _)) λD σ H q=>?_;obtain⟨ads,M,ρ,s,q⟩:=q;exact Ux (k:=λ_ M=>.nx ρ M) s (by simp only[p7]at q;exact q) λw M1 v H1 ag s1 r1 q1=>q1 σ H1 ag (ay.refl _ _) s1
theorem P9{c:C}{e:Expr}{pos:Pos}(he:PE X e (tE X.K (ev G c))):PS X (.Return (some e) pos) (mQ X.K (gp G (.ret c))):=by
 refine AU (xX he) λD σ H q=>?_;obtain⟨ads,M,ρ,s,q⟩:=q;refine⟨ads,M,ρ,s,?_⟩;simp only[t7]at q
 cases hq:ev G c ρ M with
 | ok w M1=>rw[hq]at q;exact q
 | err _ _=>rw[hq]at q;exact q
 | aa=>rw[hq]at q;exact q
theorem Uz{t:dU}{a b:List S}{c:Expr}{x y:List Stmt}{pos:Pos}(ht:PT X c (lS X.K (dm G t)))(ha:u4 X x (mQ X.K (cm G a)))(hb:u4 X y (mQ X.K (cm G b))):PS X (.If c x y pos) (mQ X.K (gp G (.iff t a b))):=by
 refine AU (N4 ht ha hb) λD σ H q=>?_;obtain⟨ads,M,ρ,s,q⟩:=q;refine⟨ads,M,ρ,s,?_⟩;simp only[t9]at q
 cases hq:dm G t ρ M with
 | ok r M1 =>
  rw[hq]at q;intro H1 ag g1 m1;have q:mP X.K ads H D (if r then cm G a ρ M1 else cm G b ρ M1):=q;have q:=q.shift g1 s.mem m1
  cases r with
  | true=>rw[aG rfl]at q⊢;exact⟨ag,M1,ρ,s.grow g1 m1,q⟩
  | false=>rw[aT (by simp)]at q⊢;exact⟨ag,M1,ρ,s.grow g1 m1,q⟩
 | err _ _=>rw[hq]at q;exact q
 | aa=>rw[hq]at q;exact q
theorem P_{tg:List Nat}{k:SK}{cU:List C}{b:List S}{t aD:Expr}{body:List Stmt}{pos:Pos}(g:Good kk X cc G)(hx:PassesOwn (model X.prog X.w) X.A X.env X.xe)(hs:PI X t aD (tI X.K (cP G k cU)))(hn:dY aD=true)(ht:gT cc tg t=true)(hb:u4 X body (mQ X.K (cm G b))):PS X (.For t aD body [] pos) (mQ X.K (gp G (.cA tg k cU b))):=by
 refine AU (Hn hx g.calm hs (iM g ht) hb (og hn X.env)) λD σ H q=>?_;obtain⟨ads,M,ρ,s,q⟩:=q;refine⟨ads,M,ρ,s,?_⟩;simp only[p9]at q
 cases hq:cP G k cU ρ M with
 | ok it M1 =>
  rw[hq]at q;intro J H1 ag g1 m1 rj;exact CQ (λD σ H h=>h) (s.grow g1 m1) rj (mP.shift (o:=cX (λρ M=>cm G b ρ M) it tg (cO M1 it) 0 ρ M1) q g1 s.mem m1)
 | err _ _=>rw[hq]at q;exact q
 | aa=>rw[hq]at q;exact q
end
section
variable {kk:Nat} {X:Cx} {cc:CC} {G:bo}
def UA(kk:Nat)(X:Cx)(xs:List (Str×Addr×List Str)):Prop:=∀(x:Str)(a:Addr)(f:List Str),xs.lookup x=some (a,f)->∃D fI fd sf oI j,j+1<=kk/\Ry X.K a D fI f/\X.K.lookup fI=some oI/\oI.cls=.type "function" /\ fR X.prog X.w X.K X.mg X.base Rp j fI fd (sf::f) (Wq X.K a D fI f)/\Binds X.K fd (sf::f) []/\X.mg x=some (.ref a)
theorem aH.zip{K:PySem.W.Frag}{ads:List Addr}{H:Hp}:∀{f:List Str}{ds:List D}{vs:List V},aH K ads H ds vs->cf K ads H (f.zip ds) (f.zip vs)
 | [],_,_,_=>by simp only[List.zip_nil_left];unfold cf;rfl
 | _::_,[],vs,h=>by unfold aH at h;subst h;simp only[List.zip_nil_right];unfold cf;rfl
 | f::fs,d::ds,vs,h=>by
  unfold aH at h;obtain⟨x,r,rfl,h1,h2⟩:=h;simp only[List.zip_cons_cons];unfold cf;exact⟨_,_,rfl,rfl,h1,aH.zip h2⟩
end
end
section
variable [EX]
section
variable {kk:Nat} {G:bo} {X:Cx} {cc:CC}
theorem CT{tg:List Nat}{cond:Option dU}{elt:C}{cx:List (Option Nat)}{el t:Expr}{ifs:List Expr}{sc:Scope}(g:Good kk X cc G)(zx:pW cc sc=true)(yG:cx=lb cc sc)(Ut:gT (mL cc sc) tg t=true)(iP:Cs (mL cc sc) cond ifs=true)(UB:bB (mL cc sc) elt el=true)(pins:List (Addr×Obj))(s:Shared)(σ:L2.St)(H:Hp)(I:Inv X pins σ H s):∃cl,jn X sc (dX sc) cx cl t el ifs (tG X.K tg) (cond.map λt=>@lS never X.K (dm G t)) (@tE never X.K (ev G elt)):=by
 obtain⟨h1,h2,h3,h4,h5⟩:=j6 zx
 obtain⟨cl,RJ⟩:=tZ (X:=X) (sc:=sc) λy hy hf=>by
  obtain⟨_,ho⟩:=h5 y hy hf;refine I.ok.has y.1 ?_;rcases ho with ho | ho
  ·exact .inl (g.kinds _ _ ho)
  ·exact g.kinds _ _ ho
 refine⟨cl,h1,h2,h3,RJ,yG▸zv g zx,λC s H fp=>(by have gb:=g.block (cl:=cl) zx C s H fp;letI:=never;exact iM gb Ut),?_,λC s H fp=>aU elt never (mL cc sc) _ el (g.block zx C s H fp) UB⟩
 cases cond with
 | none =>
  cases ifs with
  | nil=>rfl
  | cons _ _=>cases iP
 | some tt =>
  cases ifs with
  | nil=>cases iP
  | cons e es =>
   cases es with
   | cons _ _=>cases iP
   | nil=>exact⟨e,rfl,λC s H fp=>vS tt never (mL cc sc) (X.block sc cl C (dX sc) s H fp []) e (g.block zx C s H fp) iP⟩
theorem CU{k:SK}{cU:List C}{tg:List Nat}{cond:Option dU}{elt:C}{cx:List (Option Nat)}(σ:L2.St)(H:Hp)(Q:VK)(q:tE X.K (ev G (.comp k cU tg cond elt cx)) σ H Q):sV cx (tI X.K (cP G k cU)) (tG X.K tg) (cond.map λt=>@lS never X.K (dm G t)) (@tE never X.K (ev G elt)) σ H Q:=by
 obtain⟨ads,M,ρ,sr,q⟩:=q;refine⟨ads,M,ρ,sr,?_⟩
 have q:bz X.K ads H Q ((cP G k cU ρ M).bind λit M=>bq (λτ M=>bL G cond τ M) (λτ M=>(ev G elt τ M).bind own) it tg (cO M it) 0 (d0 cx ρ) M []):=by
  simp only[nS]at q;unfold cP
  cases hw:cI G cU ρ M with
  | ok ws M1=>rw[hw]at q;exact q
  | err _ _=>rw[hw]at q;exact q
  | aa=>rw[hw]at q;exact q
 cases hs:cP G k cU ρ M with
 | ok it M1 =>
  rw[hs]at q;intro J H1 ag g1 m1 rj;exact p5 (sr.grow g1 m1) rj (bz.shift (o:=bq (λτ M=>bL G cond τ M) (λτ M=>(ev G elt τ M).bind own) it tg (cO M1 it) 0 (d0 cx ρ) M1 []) q g1 sr.mem m1)
 | err _ _=>rw[hs]at q;exact q
 | aa=>rw[hs]at q;exact q
structure t_ (kk:Nat) (X:Cx) (cc:CC) (G:bo):Prop where
 g:Good kk X cc G
 bk:X.env.blockKind=.function
 nx:PassesOwn (model X.prog X.w) X.A X.env X.xe
 xp:∃E:XK,sZ X E/\∀{K:PySem.W.Frag}{ads:List Addr}{H:Hp}{x:yR}{M:af},EX.post K ads H x M->(B5 E).post K ads H x M
 xs:UA kk X cc.xs.cl
 Lc:X.stack=X.env::X.outer/\X.env.frame=some X.env.locals
theorem vV{v:Expr}(h:(!dw v||Nat.beq v.ctorIdx 8)=true)(hc:dw v=true):∃el gens sc q,v=.ListComp el gens sc q:=by
 rw[hc]at h;exact Expr.ListComp.elim (motive_1:=λv=>∃el gens sc q,v=.ListComp el gens sc q) v (Nat.eq_of_beq_eq_true h) λel gens sc q=>⟨el,gens,sc,q,rfl⟩
theorem Jq{c:C}{el:Expr}{gens:List Comprehension}{sc:Scope}{q:Pos}(h:bB cc c (.ListComp el gens sc q)=true):∃k cU tg cond elt cx,c=.comp k cU tg cond elt cx:=by
 cases c<;>first | exact absurd (show false=true from h) aI | exact⟨_,_,_,_,_,_,rfl⟩
end
section
variable {kk:Nat} {X:Cx} {cc:CC} {G:bo}
theorem Good.Fe(g:Good kk X cc G):@Good never kk X.Fe cc G :=
 @Good.mk never kk X.Fe cc G ⟨g.rh,g.N,g.nd,g.kinds,g.Ww,g.blt,g.Uj,g.Yz,g.cat,g.RC,g.rB,g.xN,g.Ps⟩ g.calm g.room g.fns ⟨E0,(λ_ _ _ _ _ _ _ h=>h.elim),λh=>h.elim⟩
theorem Jr {r : Bool} {c : C} {st : Stmt} {h0 : ExceptHandler} {eg : List ExceptHandler} {pos : Pos} (g : t_ kk X cc G)
    (hk:(match r with
      | true=>gh st λo _=>(match o with
        | some e=>bB cc c e
        | none=>false)
      | false=>k_ st λe _=>!dw e&&bB cc c e)=true):PS X (.Try [st] (h0::eg) [] [] pos) (mQ X.K (gp G (.iQ r c))):=by
  have main : ∀ {st : Stmt}, PS X.Fe st (@mQ never X.K (fun ρ M => match ev G c ρ M with
      | .ok w M=>aV.tn r w ρ M
      | _=>.aa))->PS X (.Try [st] (h0::eg) [] [] pos) (mQ X.K (gp G (.iQ r c))):=λ{st} hp pins s σ H Z I q=>by
    refine wpAny_Try_except (wpAny_execs_cons (je (hp pins s σ H Z (I.lY _) ?_) (λf s1 h1=>?_) λ_ _ z=>z.elim))
    · obtain⟨ads,M,ρ,sr,q⟩:=q;refine⟨ads,M,ρ,sr,?_⟩;rw[p_]at q;dsimp only
      cases hq:ev G c ρ M with
      | ok w M1 =>
        rw[hq]at q
        cases r with
        | true=>exact q
        | false=>exact q
      | err _ _=>rw[hq]at q;exact q.elim
      | aa=>rw[hq]at q;exact q.elim
    · have h2:=h1.fX
      cases f with
      | next=>exact Bm (Bm h2)
      | brk=>exact h2
      | cont=>exact h2
      | ret u=>exact h2
  cases r with
  | true =>
    refine jL (P:=λst=>PS X (.Try [st] (h0::eg) [] [] pos) _) hk λo rp hk=>?_
    cases o with
    | none=>exact absurd hk aI
    | some e =>
      have gn:=g.g.Fe
      letI:=never
      refine main (AU (xX (aU c never cc X.Fe e gn hk)) λD σ H q=>?_);obtain⟨ads,M,ρ,s,q⟩:=q;refine⟨ads,M,ρ,s,?_⟩;dsimp only at q
      cases hq:ev G c ρ M with
      | ok w M1=>rw[hq]at q;exact q
      | err _ _=>rw[hq]at q;exact q.elim
      | aa=>rw[hq]at q;exact q.elim
  | false =>
    refine mK (P:=λst=>PS X (.Try [st] (h0::eg) [] [] pos) _) hk λe rp hk=>?_;simp only[aF,gX]at hk;have gn:=g.g.Fe
    letI:=never
    refine main (AU (sN (aU c never cc X.Fe e gn hk.2) (j7 hk.1 _ _ _)) λD σ H q=>?_);obtain⟨ads,M,ρ,s,q⟩:=q;refine⟨ads,M,ρ,s,?_⟩;dsimp only at q
    cases hq:ev G c ρ M with
    | ok w M1=>rw[hq]at q;exact λv H1 ag g1 m1 r1=>q σ H1 ag g1 (s.grow g1 m1)
    | err _ _=>rw[hq]at q;exact q.elim
    | aa=>rw[hq]at q;exact q.elim
end
mutual
theorem UC{kk:Nat}{G:bo}:∀(s:S)(cc:CC)(X:Cx)(st:Stmt),t_ kk X cc G->Jl cc s st=true->PS X st (mQ X.K (gp G s))
 | .asg tg c,cc,X,st,g,h=>gm (P:=λst=>PS X st _) h λts v pos h=>by
  rcases ts with _|⟨t,_|⟨_,_⟩⟩<;>first | exact absurd h aI | skip
  simp only[aF]at h;exact P7 g.g.dA (iM g.g h.1.1.1) h.1.1.1 h.1.1.2 (vV h.1.2) (aU c _ cc X v g.g h.2)
 | .jV i c,cc,X,st,g,h=>gm (P:=λst=>PS X st _) h λts v pos h=>by
  rcases ts with _|⟨t,_|⟨_,_⟩⟩<;>first | exact absurd h aI | skip
  refine bu (P:=λt=>PS X (.Assign [t] v pos) _) h λx p h=>gS (P:=λv=>PS X (.Assign [.Name x p] v pos) _) h λel gens sc q h=>?_;simp only[aF,gX]at h;obtain⟨⟨⟨⟨h1,h2⟩,h3⟩,h4⟩,h5⟩:=h;obtain⟨k,cU,tg,cond,elt,cx,rfl⟩:=Jq h5;rcases gens with _|⟨⟨t,aD,ifs,as⟩,_|⟨_,_⟩⟩<;>first | exact absurd (show false=true from h5) aI | skip
  have h6:(as==0&&pW cc sc&&decide (cx=lb cc sc)&&nW cc k cU t aD&&gT (mL cc sc) tg t&&Cs (mL cc sc) cond ifs&&bB (mL cc sc) elt el)=true:=h5;simp only[aF,eT,oQ]at h6;obtain⟨⟨⟨⟨⟨⟨rfl,k1⟩,k2⟩,k3⟩,k4⟩,k5⟩,k6⟩:=h6;obtain⟨zy,kG⟩:=rR cU k _ cc X t aD g.g k3
  exact Jo g.g g.bk (eq_of_beq h1) (eq_of_beq h2) (eq_of_beq h3) h4 (λpins s σ H I=>by
   obtain⟨cl,ck⟩:=CT g.g k1 k2 k4 k5 k6 pins s σ H I;exact⟨cl,zy,ck⟩) (og kG X.env) CU
 | .par i j a b,_,_,_,_,h=>absurd (show false=true from h) aI
 | .put o i v,cc,X,st,g,h=>gm (P:=λst=>PS X st _) h λts w pos h=>by
  rcases ts with _|⟨t,_|⟨_,_⟩⟩<;>first | exact absurd h aI | skip
  refine df (P:=λt=>PS X (.Assign [t] w pos) _) h λe f sp h=>?_;simp only[aF]at h;obtain⟨⟨⟨h1,h3⟩,h4⟩,h5⟩:=h;exact P8 g.g h1 (aU o _ cc X e g.g h3) (aU i _ cc X f g.g h4) (aU v _ cc X w g.g h5)
 | .dput o i v,_,_,_,_,h=>absurd (show false=true from h) aI
 | .expr c,cc,X,st,g,h=>mK (P:=λst=>PS X st _) h λe pos h=>by
  simp only[aF,gX]at h;exact Jp h.1 (aU c _ cc X e g.g h.2)
 | .ret c,cc,X,st,g,h=>jL (P:=λst=>PS X st _) h λv pos h=>by
  cases v with
  | none=>exact absurd h aI
  | some e=>exact P9 (aU c _ cc X e g.g h)
 | .zB,_,_,_,_,h=>absurd (show false=true from h) aI
 | .iff t a b,cc,X,st,g,h=>Cq (P:=λst=>PS X st _) h λc x y pos h=>by
  simp only[aF]at h;exact Uz (vS t _ cc X c g.g h.1.1) (qc a cc X x g h.1.2) (qc b cc X y g h.2)
 | .cA tg k cU b,cc,X,st,g,h=>zb (P:=λst=>PS X st _) h λt aD body P4 pos h=>by
  simp only[aF,uO]at h;obtain⟨⟨⟨rfl,h1⟩,h2⟩,h3⟩:=h;obtain⟨hs,hn⟩:=rR cU k _ cc X t aD g.g h1;exact P_ g.g g.nx hs hn h2 (qc b cc X body g h3)
 | .Ji n t b,_,_,_,_,h=>absurd (show false=true from h) aI
 | .Jj a f c,_,_,_,_,h=>absurd (show false=true from h) aI
 | .vT b cb mt j hh,_,_,_,_,h=>absurd (show false=true from h) aI
 | .iQ r c,cc,X,st,g,h=>zE (P:=λst=>PS X st _) h λbody hs P4 fin pos h=>by
  simp only[aF,uO,gX,uC]at h;obtain⟨⟨⟨rfl,rfl⟩,hh⟩,h⟩:=h;rcases body with _|⟨st,_|⟨_,_⟩⟩<;>first | exact absurd h aI | skip
  rcases hs with _|⟨h0,eg⟩
  ·exact absurd rfl hh
  ·exact Jr g h
 | .never,cc,X,st,g,h=>AU xY λD σ H q=>by
  obtain⟨ads,M,ρ,s,q⟩:=q;exact q
 | .pass,_,_,_,_,h=>absurd (show false=true from h) aI
 | .brk,_,_,_,_,h=>absurd (show false=true from h) aI
 | .cont,_,_,_,_,h=>absurd (show false=true from h) aI
theorem qc{kk:Nat}{G:bo}:∀(ss:List S)(cc:CC)(X:Cx)(st:List Stmt),t_ kk X cc G->gq cc ss st=true->u4 X st (mQ X.K (cm G ss))
 | [],cc,X,[],g,h=>P5 Bu λD σ H q=>by
  obtain⟨ads,M,ρ,s,q⟩:=q;exact q σ H ads (ay.refl _ _) s
 | [],cc,X,_::_,g,h=>by cases h
 | _::_,cc,X,[],g,h=>by cases h
 | s::ss,cc,X,t::ts,g,h=>by
  have h':(Jl cc s t&&gq cc ss ts)=true:=h;simp only[aF]at h';exact P5 (xW (UC s cc X t g h'.1) (qc ss cc X ts g h'.2)) λD σ H q=>P6 q
end
end
noncomputable def fE(n:Nat)(ds:List D):En:=ds.map some++List.replicate (n-ds.length) none
def ah(G:bo)(n:Nat)(body:List S)(ds:List D)(M:af):bE W:=match cm G body (fE n ds) M with
 | .rt w M=>.ok w M
 | .nx _ M=>.ok (.d .ba) M
 | .er x M=>.err x M
 | _=>.aa
theorem zF{K:PySem.W.Frag}{ads:List Addr}{H:Hp}:∀{ds:List D}{vs:List V}(r:aH K ads H ds vs)(k:Nat),O6 K ads H (ds.map some++List.replicate k none) (vs.map some++List.replicate k none)
 | ds,vs,r,k=>by
  intro i d e;by_cases hi:i<ds.length
  ·rw[fL (by simpa using hi),ff]at e
   cases q:ds[i]? with
   | none=>rw[q]at e;cases e
   | some d' =>
    rw[q]at e;cases e;obtain⟨v,ev,rv⟩:=r.get q;exact⟨v,by rw[fL (by rw[aR,<- r.len];exact hi),ff,ev];rfl,rv⟩
  ·rw[lT (by simpa using hi),List.getElem?_replicate]at e;split at e<;>cases e
theorem zG{P:Program}{w:World}{K:PySem.W.Frag}{mg:Str->Option Value}{base:Heap}{x qual:Str}{st:Stmt}{f:Addr}{fd:FuncData}{N ps:List Str}{k:Nat}{G:bo}{fs:List (Str×Nat)}{gs:List (Str×Int)}{xs:XI}{body:List S}{n:Nat}(F:Wg K x qual st f fd)(Sc:jY N ps (a_ st))(hn:ps.length=n)(hb:gq ⟨N,(a_ st).names,fs,gs,xs⟩ body (cR st)=true)(UD:∀b∈cD,mg b=none)(Y0:∀(x:Str)(v:Int),gs.lookup x=some v->∃t,mg x=some (.int v t))(Ps:∀(i:Nat)(x:Str)(n:Nat),fs[i]?=some (x,n)->∃f fd ps,fR P w K mg base (vD P w) k f fd ps (wk K n (G i))/\mg x=some (.ref f)/\PySem.W.keepIn K (.ref f)=true/\Binds K fd ps []) (Y1:∀(x:Str)(a:Addr)(f:List Str),xs.cl.lookup x=some (a,f)->∃D fI fd sf oI j,j+1<=k/\Ry K a D fI f/\K.lookup fI=some oI/\oI.cls=.type "function" /\ fR P w K mg base Rp j fI fd (sf::f) (Wq K a D fI f)/\Binds K fd (sf::f) []/\mg x=some (.ref a)) (Y2:∀k C r,(k,C,r)∈xs.kt->FO K mg k C r) (Y3:∀cb C fs,(cb,C,fs)∈xs.ct->FP K mg cb C fs) (UE:∀(x:Str)(a:Addr),(x,a)∈xs.fa->mg x=some (.ref a)) (Y4:∀x v:Str,(x,v)∈xs.gt->∃t,mg x=some (.str v t)) (Y5:∀(x:Str)(tb:rA),(x,tb)∈xs.tb->tJ P w K mg x tb) (Y6:∀(i:Nat)(x:Str)(n:Nat),fs[i]?=some (x,n)->i∈xs.hs->∃f fd ps,FA P w K mg base Rp k f fd ps (wk K n (G i))/\mg x=some (.ref f)/\PySem.W.keepIn K (.ref f)=true/\Binds K fd ps []):fR P w K mg base (vD P w) (k+1) f fd ps (wk K n (ah G N.length body)):=by
 have sQ:ps.length<=N.length:=by have:=jP List.length Sc.pre;rw[fT]at this;omega
 obtain⟨oc,od,kV,doc,pm,an,pe,ct,pf,rfl,lk,AK⟩:=F.ex;refine Ot lk AK Sc (λvs H Q E h=>?_) λA outer s H vs Q E hr Fp=>?_
 ·obtain⟨ads,M,ds,m,r,hl,_⟩:=h;rw[<- r.len,hl,hn]
 ·letI:EX:=B5 E
  have gs:t_ k (qV (vD P w) P w K mg base N qual (a_ st) f pe A outer s H E) ⟨N,(a_ st).names,fs,gs,xs⟩ G:=by
   refine⟨⟨⟨⟨hr.dp,hr.un⟩,rfl,Sc.nd,λx k e=>?_,λ_ _=>rfl,UD,Y0,Y2,Y3,UE,Y4,Y5,Y6⟩,rfl,hr,Ps,⟨E,nP.pass,λh=>h⟩⟩,?_,nP.own,⟨E,nP,λh=>h⟩,Y1,⟨rfl,rfl⟩⟩
   ·have e:(a_ st).names.lookup x=some k:=e
    cases k with
    | «local»=>exact e
    | cell=>exact e
    | free=>exact absurd rfl (Sc.yf _ (j9 e))
    | globalExplicit=>exact True.intro
    | globalImplicit=>exact e
   ·show(if (a_ st).kind.isAnnotationScope then ScopeKind.function else (a_ st).kind)=_;rw[Sc.kind];rfl
  refine⟨_,qc body _ _ (cR st) gs hb,?_⟩;obtain⟨ads,M,ds,m,r,hl,q⟩:=Fp
  have bS:(fE N.length ds).length=N.length:=by
   unfold fE;rw[cz,aR,Gy];omega
  refine⟨ads,M,fE N.length ds,⟨m,?_,?_⟩,?_⟩
  ·unfold fE L2.start;rw[<- r.len];exact zF r _
  ·rw[bS];unfold L2.start;rw[cz,aR,Gy,<- r.len];omega
  ·unfold ah at q
   cases hq:cm G body (fE N.length ds) M with
   | nx ρ M1=>rw[hq]at q;exact λcE H' aq g s'=>q .ba H' aq g s'.mem (show RD K aq H' .ba .ba from hG)
   | rt w M1=>rw[hq]at q;exact q
   | bk _ _=>rw[hq]at q;exact q.elim
   | ct _ _=>rw[hq]at q;exact q.elim
   | er x M1=>rw[hq]at q;exact q
   | aa=>rw[hq]at q;exact q.elim
noncomputable def cv(l:List (List D->af->bE W)):bo:=λi ds M=>match l[i]? with
 | some f=>f ds M
 | none=>.aa
theorem Js{K:PySem.W.Frag}{h:Heap}{mg:Str->Option Value}{gs:List (Str×Int)}(X:K.In h)(G:h.Ns mainGlobals mg)(z:gs.all (λp=>match PySem.W.nsIn K mainGlobals p.1 with | some (some (.int v _))=>v==p.2 | _=>false)=true):∀(x:Str)(v:Int),gs.lookup x=some v->∃t,mg x=some (.int v t):=by
 intro x v e;have q:=jN.mp z (x,v) (j9 e);dsimp only at q;split at q
 ·rename_i w t e2
  obtain rfl:=eq_of_beq q;exact⟨t,ie X G e2⟩
 ·exact absurd q aI
section
variable {P:Program} {w:World} {K:PySem.W.Frag} {mg:Str->Option Value} {base h:Heap} {k k2:Nat} {x:Str} {n:Nat} {fs:List (Str×Nat)} {Fs:List (List D->af->bE W)} {F:List D->af->bE W} {gs:List (Str×Int)}
structure Is (P:Program) (w:World) (K:PySem.W.Frag) (mg:Str->Option Value) (base:Heap) (k:Nat) (x:Str) (n:Nat) (F:List D->af->bE W):Prop where
 is:∃f fd ps,fR P w K mg base (vD P w) k f fd ps (wk K n F)/\mg x=some (.ref f)/\PySem.W.keepIn K (.ref f)=true/\Binds K fd ps []
theorem Is.mono(h:Is P w K mg base k x n F)(hk:k<=k2):Is P w K mg base k2 x n F:=by
 obtain⟨f,fd,ps,a,b⟩:=h.is;exact⟨f,fd,ps,a.mono hk,b⟩
noncomputable def All(P:Program)(w:World)(K:PySem.W.Frag)(mg:Str->Option Value)(base:Heap)(k:Nat)(fs:List (Str×Nat))(Fs:List (List D->af->bE W)):Prop:=fs.length=Fs.length/\∀(i:Nat)(x:Str)(n:Nat),fs[i]?=some (x,n)->∃F,Fs[i]?=some F/\Is P w K mg base k x n F
theorem All.nil:All P w K mg base k [] []:=⟨rfl,λi x n e=>by simp at e⟩
theorem All.snoc(h:All P w K mg base k fs Fs)(g:Is P w K mg base (k+1) x n F):All P w K mg base (k+1) (fs++[(x,n)]) (Fs++[F]):=by
 obtain⟨hl,h⟩:=h;refine⟨by rw[cz,cz,hl];rfl,λi y m e=>?_⟩;by_cases hi:i<fs.length
 ·rw[fL hi]at e;obtain⟨F,a,b⟩:=h i y m e;exact⟨F,by rw[fL ∅];exact a,b.mono (Nat.le_succ _)⟩
 ·have:i=fs.length:=by
   have:=(dq.mp e).1;simp at this;omega
  subst this;simp at e;obtain⟨rfl,rfl⟩:=e;exact⟨F,by rw[hl];simp,g⟩
theorem All.fns(h:All P w K mg base k fs Fs):∀(i:Nat)(x:Str)(n:Nat),fs[i]?=some (x,n)->∃f fd ps,fR P w K mg base (vD P w) k f fd ps (wk K n (cv Fs i))/\mg x=some (.ref f)/\PySem.W.keepIn K (.ref f)=true/\Binds K fd ps []:=λi y m e=>by
 obtain⟨F,a,b⟩:=h.2 i y m e;have:cv Fs i=F:=by funext ds M;unfold cv;rw[a]
 rw[this];exact b.is
noncomputable def Ll(N ps:List Str)(sc:Scope):Bool:=(match sc.kind with | .function=>true | _=>false) && !sc.isCoroutine && !sc.isGenerator&&decide N.Nodup&&decide (N.take ps.length=ps)&&ps.all (λx=>match sc.names.lookup x with | some .local=>true | some .cell=>true | _=>false)&&sc.names.all λy=>match y.2 with | .free=>false | _=>true
theorem zH{N ps:List Str}{sc:Scope}(h:Ll N ps sc=true):jY N ps sc:=by
 unfold Ll at h;simp only[aF,jN,oQ,gX]at h;obtain⟨⟨⟨⟨⟨⟨h1,h2⟩,h3⟩,h4⟩,h5⟩,h6⟩,h7⟩:=h;refine⟨?_,h2,h3,h4,h5,λx hx=>?_,λy hy e=>?_⟩
 ·split at h1
  ·assumption
  ·cases h1
 ·have:=h6 x hx;split at this
  ·exact .inl (by assumption)
  ·exact .inr (by assumption)
  ·cases this
 ·have:=h7 y hy;rw[e]at this;cases this
noncomputable def Qa:Nat->(List Value->Prop)->Prop
 | 0,P=>P []
 | k+1,P=>∀a,Qa k λus=>P (a::us)
theorem ua:∀{k:Nat}{P:List Value->Prop},Qa k P->∀us,us.length=k->P us:=by
 intro k
 induction k with
 | zero=>intro P h us e;rw[Gu.mp e];exact h
 | succ k ih =>
  intro P h us e
  cases us with
  | nil=>cases e
  | cons a us=>exact ih (P:=λus=>P (a::us)) (h a) us (Nat.succ.inj e)
structure Cw (K:PySem.W.Frag) (h:Heap) (mg:Str->Option Value) (gs:List (Str×Int)):Prop where
 X:K.In h
 G:h.Ns mainGlobals mg
 b:∀b∈cD,mg b=none
 g:∀(x:Str)(v:Int),gs.lookup x=some v->∃t,mg x=some (.int v t)
theorem rS(x:Str)(a:Addr)(st:Stmt)(N ps:List Str)(b:List S)(m c:Value)(W:Cw K h mg gs)(A:All P w K mg base k fs Fs)(lk:K.lookup a=some (fo (fq x st m c)))(hc:PySem.W.codeIn K c x=true)(hk:PySem.W.keepIn K (.ref a)=true)(hb:(Ll N ps (a_ st)&&gq ⟨N,(a_ st).names,fs,gs,IM⟩ b (cR st))=true):fR P w K mg base (vD P w) (k+1) a (fq x st m c) ps (wk K ps.length (ah (cv Fs) N.length b)) :=
 zG (yI lk hc hk) (zH ((aF _ _).mp hb).1) rfl ((aF _ _).mp hb).2 W.b W.g A.fns (λ_ _ _ e=>nomatch e) (λ_ _ _ e=>nomatch e) (λ_ _ _ e=>nomatch e) (λ_ _ e=>nomatch e) (λ_ _ e=>nomatch e) (λ_ _ e=>nomatch e) (λ_ _ _ _ e=>nomatch e)
theorem nx(x:Str)(a:Addr)(st:Stmt)(N ps:List Str)(b:List S)(m c:Value)(W:Cw K h mg gs)(A:All P w K mg base k fs Fs)(ha:PySem.W.nsIn K mainGlobals x=some (some (.ref a)):=by (kernel_rfl))(lk:K.lookup a=some (fo (fq x st m c)):=by (kernel_rfl))(hc:PySem.W.codeIn K c x=true:=by (kernel_rfl))(hk:PySem.W.keepIn K (.ref a)=true:=by (kernel_rfl))(hb:(Ll N ps (a_ st)&&gq ⟨N,(a_ st).names,fs,gs,IM⟩ b (cR st))=true:=by (decide +kernel))(bd:Qa ps.length λus=>bindArgs (fq x st m c) ⟨us,[]⟩=pure (ps.zip us):=by (repeat intro _);rfl):All P w K mg base (k+1) (fs++[(x,ps.length)]) (Fs++[ah (cv Fs) N.length b]) :=
 A.snoc ⟨a,_,ps,rS x a st N ps b m c W A lk hc hk hb,ie W.X W.G ha,hk,.all (ua bd)⟩
structure WH (P:Program) (w:World) (K:PySem.W.Frag) (mg:Str->Option Value) (xs:XI):Prop where
 fa:∀(x:Str)(a:Addr),(x,a)∈xs.fa->mg x=some (.ref a)
 gt:∀x v:Str,(x,v)∈xs.gt->∃t,mg x=some (.str v t)
 tb:∀(x:Str)(tb:rA),(x,tb)∈xs.tb->tJ P w K mg x tb
theorem Qb{xs:XI}(x:Str)(a:Addr)(st:Stmt)(N ps:List Str)(b:List S)(m c:Value)(W:Cw K h mg gs)(A:All P w K mg base k fs Fs)(X:WH P w K mg xs)(ha:PySem.W.nsIn K mainGlobals x=some (some (.ref a)):=by (kernel_rfl))(lk:K.lookup a=some (fo (fq x st m c)):=by (kernel_rfl))(hc:PySem.W.codeIn K c x=true:=by (kernel_rfl))(hk:PySem.W.keepIn K (.ref a)=true:=by (kernel_rfl))(hb:(Ll N ps (a_ st)&&gq ⟨N,(a_ st).names,fs,gs,⟨[],[],[],[],xs.fa,xs.gt,xs.tb⟩⟩ b (cR st))=true:=by (decide +kernel))(bd:Qa ps.length λus=>bindArgs (fq x st m c) ⟨us,[]⟩=pure (ps.zip us):=by (repeat intro _);rfl):All P w K mg base (k+1) (fs++[(x,ps.length)]) (Fs++[ah (cv Fs) N.length b]) :=
 A.snoc ⟨a,_,ps,zG (yI lk hc hk) (zH ((aF _ _).mp hb).1) rfl ((aF _ _).mp hb).2 W.b W.g A.fns (λ_ _ _ e=>nomatch e) (λ_ _ _ e=>nomatch e) (λ_ _ _ e=>nomatch e) X.fa X.gt X.tb (λ_ _ _ _ e=>nomatch e),ie W.X W.G ha,hk,.all (ua bd)⟩
def qd(Fs:List (List D->af->bE W))(N:Nat)(b:List S):Nat->List D->af->bE W
 | 0=>λ_ _=>.aa
 | n+1=>ah (cv (Fs++[qd Fs N b n])) N b
theorem All.F1(h:All P w K mg base k fs Fs)(g:Is P w K mg base k2 x n F)(hk:k<=k2):All P w K mg base k2 (fs++[(x,n)]) (Fs++[F]):=by
 obtain⟨hl,h⟩:=h;refine⟨by rw[cz,cz,hl];rfl,λi y m e=>?_⟩;by_cases hi:i<fs.length
 ·rw[fL hi]at e;obtain⟨F,a,b⟩:=h i y m e;exact⟨F,by rw[fL ∅];exact a,b.mono hk⟩
 ·have:i=fs.length:=by
   have:=(dq.mp e).1;simp at this;omega
  subst this;simp at e;obtain⟨rfl,rfl⟩:=e;exact⟨F,by rw[hl];simp,g⟩
theorem WI(x:Str)(a:Addr)(st:Stmt)(N ps:List Str)(b:List S)(m c:Value)(W:Cw K h mg gs)(A:All P w K mg base k fs Fs)(ha:PySem.W.nsIn K mainGlobals x=some (some (.ref a)):=by (kernel_rfl))(lk:K.lookup a=some (fo (fq x st m c)):=by (kernel_rfl))(hc:PySem.W.codeIn K c x=true:=by (kernel_rfl))(hk:PySem.W.keepIn K (.ref a)=true:=by (kernel_rfl))(hb:(Ll N ps (a_ st)&&gq ⟨N,(a_ st).names,fs++[(x,ps.length)],gs,IM⟩ b (cR st))=true:=by (decide +kernel))(bd:Qa ps.length λus=>bindArgs (fq x st m c) ⟨us,[]⟩=pure (ps.zip us):=by (repeat intro _);rfl):∀n,All P w K mg base (k+n) (fs++[(x,ps.length)]) (Fs++[qd Fs N.length b n])
 | 0=>A.F1 ⟨a,fq x st m c,ps,⟨λvs H Q E z=>by obtain⟨_,_,_,_,_,_,q⟩:=z;exact q.elim,λA outer s H args us vs Q E _ _ _ _ z=>by obtain⟨_,_,_,_,_,_,q⟩:=z;exact q.elim⟩,ie W.X W.G ha,hk,.all (ua bd)⟩ (a7 _)
 | n+1=>by
  have A1:=WI x a st N ps b m c W A ha lk hc hk hb bd n;have F:=rS x a st N ps b m c W A1 lk hc hk hb;exact A.F1 ⟨a,fq x st m c,ps,F,ie W.X W.G ha,hk,.all (ua bd)⟩ ∅
end
def vW(K:PySem.W.Frag):Value->Option (List Value)
 | .ref a=>match K.lookup a with
  | some o=>if (o.cls == .type "tuple")=true then (match o.data with
   | .seq ar _=>some ar.toList
   | _=>none) else none
  | none=>none
 | _=>none
noncomputable def Y7:Option Addr->Value->Bool
 | none,.none=>true
 | some a,.ref b=>a==b
 | _,_=>false
def RL(K:PySem.W.Frag)(p:List Addr×Option Addr)(v:Value):Bool:=match vW K v with
 | some [x,y]=>(match vW K x with
  | some us=>us==p.1.map Value.ref&&decide (p.1.length<=100)
  | none=>false)&&Y7 p.2 y
 | _=>false
theorem ub{K:PySem.W.Frag}{v:Value}{us:List Value}(h:vW K v=some us)(hl:us.length<=100):∃a,v=.ref a/\∀xs,aE xs us->O5 K a xs:=by
 cases v<;>first | cases h | skip
 rename_i a
 unfold vW at h;dsimp only at h
 cases e:K.lookup a with
 | none=>rw[e]at h;cases h
 | some o =>
  rw[e]at h;dsimp only at h;by_cases c:(o.cls==Value.type "tuple")=true
  ·rw[aG c]at h
   cases d:o.data with
   | seq ar n =>
    rw[d]at h;obtain rfl:=cH h;exact⟨a,rfl,λxs r=>⟨o,ar,n,e,eT.mp c,d,fh (by simpa using hl) (by decide),r⟩⟩
   | _=>rw[d]at h;cases h
  ·rw[aT c]at h;cases h
theorem uc{K:PySem.W.Frag}{ads:List Addr}{H:Hp}:∀rs:List Addr,aH K ads H (rs.map D.fn) (rs.map V.ref)
 | []=>by
  show aH K ads H [] [];unfold aH;rfl
 | r::rs=>by
  show aH K ads H (D.fn r::rs.map D.fn) _;unfold aH;exact⟨_,_,rfl,by unfold RD;rfl,uc rs⟩
theorem lA:∀rs:List Addr,aE (rs.map V.ref) (rs.map Value.ref)
 | []=>.nil
 | r::rs=>.cons rfl (lA rs)
theorem Jt{K:PySem.W.Frag}{p:List Addr×Option Addr}{v:Value}(h:RL K p v=true):∃x,RelV x v/\∀ads H,RD K ads H (RA p) x:=by
 unfold RL at h
 cases e:vW K v with
 | none=>rw[e]at h;cases h
 | some us =>
  rw[e]at h;rcases us with _|⟨x,_|⟨y,_|⟨z,us⟩⟩⟩
  ·cases h
  ·cases h
  ·dsimp only at h;obtain⟨h1,h2⟩:=(aF _ _).mp h;obtain⟨a,rfl,ka⟩:=ub e (by show 2<=100;decide)
   cases e2:vW K x with
   | none=>rw[e2]at h1;cases h1
   | some vs =>
    rw[e2]at h1;dsimp only at h1;simp only[aF,eT,oQ]at h1;obtain⟨rfl,hl⟩:=h1;obtain⟨b,rfl,kb⟩:=ub e2 (by rw[aR];exact hl);have kb:=kb _ (lA p.1);obtain⟨rs,fo⟩:=p
    have fin:∀(d:D)(u:V),RelV u y->(∀ads H,RD K ads H d u)->∃x,RelV x (.ref a)/\∀ads H,RD K ads H (.tg [.tg (rs.map D.fn),d]) x:=λd u r q=>by
     refine⟨.ref a,rfl,λads H=>?_⟩;unfold RD;refine⟨a,[.ref b,u],rfl,ka _ (.cons rfl (.cons r .nil)),?_⟩;unfold aH;refine⟨_,_,rfl,?_,?_⟩
     ·unfold RD;exact⟨b,_,rfl,kb,uc rs⟩
     ·unfold aH;exact⟨_,_,rfl,q ads H,by unfold aH;rfl⟩
    cases fo with
    | none =>
     cases y<;>first | cases h2 | skip
     exact fin .ba .ba rfl λ_ _=>hG
    | some c =>
     cases y<;>first | cases h2 | skip
     rename_i c'
     obtain rfl:c=c':=eT.mp h2;exact fin (.fn c) (.ref c) rfl λ_ _=>by unfold RD;rfl
  ·cases h
abbrev Qc:=List (Str×Tok×Value)
def CV(K:PySem.W.Frag):Qc->rA->Bool
 | [],[]=>true
 | e::es,t::ts=>e.1==t.1&&RL K t.2 e.2.2&&CV K es ts
 | _,_=>false
def AV(e:Str×Tok×Value):bZ×Value:=(.inr e.1,e.2.2)
theorem qe {K : PySem.W.Frag} (k : Str) : ∀ {es : Qc} {ts : rA}, CV K es ts = true -> match ts.lookup k with
    | none=>valueAt (es.map AV) (.inr k)=none
    | some p=>∃u v,valueAt (es.map AV) (.inr k)=some u/\RelV v u/\∀ads H,RD K ads H (RA p) v
  | [],[],_=>rfl
  | [],_::_,h=>by cases h
  | _::_,[],h=>by cases h
  | e::es,t::ts,h=>by
    have h:(e.1==t.1&&RL K t.2 e.2.2&&CV K es ts)=true:=h;simp only[aF,eT]at h;obtain⟨⟨h1,h2⟩,h3⟩:=h;have ih:=qe k h3;obtain⟨t1,t2⟩:=t;obtain rfl:e.1=t1:=h1;rw[eK];by_cases c:k=e.1
    · have:(k==e.1)=true:=by simpa using c
      rw[this];obtain⟨x,r,q⟩:=Jt h2;refine⟨e.2.2,x,?_,r,q⟩;unfold valueAt;rw[d_,lV,show decide ((AV e).1=(.inr k:bZ))=true from dE (by rw[c];rfl)];rfl
    · have:(k==e.1)=false:=by simpa using c
      rw[this]
      have z:valueAt ((e::es).map AV) (.inr k)=valueAt (es.map AV) (.inr k):=by
        unfold valueAt;rw[d_,lV,show decide ((AV e).1=(.inr k:bZ))=false from c_ λz=>c (Sum.inr.inj z).symm]
      rw[z];exact ih
noncomputable def Ju(P:Params)(e:Str×Tok×Value):DictEntry:=⟨PyData.keyHash P e.1,.str e.1 e.2.1,e.2.2⟩
theorem mS{P:Program}{w:World}:∀es:Qc,PySem.Pairs (bG P w) (es.map (Ju w.params)) (es.map AV)
 | []=>.nil
 | e::es=>.cons (fV P w e.1 e.2.1) rfl (mS es)
theorem zI{P:Program}{w:World}{h:Heap}{a:Addr}{es:Qc}{n:Nat} (e:h.get? a=some ⟨.type "dict",none,.dict (es.map (Ju w.params)).toArray n,#[]⟩) (nd:(es.map (·.1)).Nodup):h.DictOf (bG P w) a (es.map AV):=by
 refine⟨_,_,_,e,⟨rfl,rfl,rfl⟩,rfl,λd hd=>?_,by rw[List.toList_toArray];exact mS es,?_⟩
 ·rw[List.mem_toArray,dR]at hd;obtain⟨x,_,rfl⟩:=hd;exact⟨.inr x.1,fV P w x.1 x.2.1,rfl⟩
 ·rw[kh];have:((λx:bZ×Value=>x.1)∘AV)=(Sum.inr:Str->bZ)∘(λe:Str×Tok×Value=>e.1):=rfl;rw[this,<- kh];exact List.Pairwise.map _ (λ_ _ hn z=>hn (Sum.inr.inj z)) nd
theorem Jv{P:Program}{w:World}{K:PySem.W.Frag}{h:Heap}{mg:Str->Option Value}(X:K.In h)(G:h.Ns mainGlobals mg){x:Str}{a:Addr}{es:Qc}{n:Nat}{tb:rA}(h1:PySem.W.nsIn K mainGlobals x=some (some (.ref a)))(h2:(a==sysModules)=false) (h3:K.lookup a=some ⟨.type "dict",none,.dict (es.map (Ju w.params)).toArray n,#[]⟩) (h4:(es.map (·.1)).Nodup) (h5:CV K es tb=true):tJ P w K mg x tb :=
 ⟨a,es.map AV,ie X G h1,h2,λh' X'=>zI (X' _ _ h3) h4,λk=>qe k h5⟩
class Er where
 er:yR->af->Prop
@[reducible] noncomputable def dP:Er:=⟨λ_ _=>False⟩
instance (priority:=low) Y8:Er:=dP
section
variable [er:Er]
@[irreducible] noncomputable def aQ{α:Type}(o:bE α)(P:α->af->Prop):Prop:=match o with
 | .ok a M=>P a M
 | .err x M=>Er.er x M
 | .aa=>False
theorem aK{α:Type}{a:α}{M:af}{P:α->af->Prop}:aQ (.ok a M) P=P a M:=by unfold aQ;exact propext nh
theorem aj{α:Type}{P:α->af->Prop}:aQ .aa P=False:=by unfold aQ;exact propext nh
theorem dB{α:Type}{P:α->af->Prop}{x:yR}{M:af}:aQ (.err x M) P=Er.er x M:=by unfold aQ;exact propext nh
theorem ak{α β:Type}{o:bE α}{f:α->af->bE β}{P:β->af->Prop}:aQ (o.bind f) P=aQ o λa M=>aQ (f a M) P:=by
 cases o with
 | ok a M=>rw[aK];rfl
 | err _ _=>rw[dB];exact dB
 | aa=>rw[aj];exact aj
theorem aQ.imp{α:Type}{o:bE α}{P Q:α->af->Prop}(h:aQ o P)(k:∀a M,P a M->Q a M):aQ o Q:=by
 cases o with
 | ok a M=>rw[aK]at h⊢;exact k a M h
 | err _ _=>rw[dB]at h⊢;exact h
 | aa=>rw[aj]at h;exact h.elim
theorem gD{α:Type}{c:Prop}[Decidable c]{o:bE α}{P:α->af->Prop}:aQ (if c then o else .aa) P=(c/\aQ o P):=by
 by_cases h:c
 ·rw[aG h];exact propext ⟨λq=>⟨h,q⟩,λq=>q.2⟩
 ·rw[aT h,aj];exact propext ⟨λq=>q.elim,λq=>absurd q.1 h⟩
omit er in
theorem Jw{α:Type}{o:bE α}{P:α->af->Prop}(h:@aQ dP α o P):∃a M,o=.ok a M/\P a M:=by
 cases o with
 | ok a M=>rw[@aK dP]at h;exact⟨a,M,rfl,h⟩
 | err _ _=>rw[@dB dP]at h;exact h.elim
 | aa=>rw[@aj dP]at h;exact h.elim
theorem zJ{α β:Type}{o:bE α}{f:α->af->bE β}{P:β->af->Prop}:aQ (o.b0 f) P=@aQ dP α o λa M=>aQ (f a M) P:=by
 cases o with
 | ok a M=>rw[@aK dP];rfl
 | err _ _=>rw[@dB dP];exact aj
 | aa=>rw[@aj dP];exact aj
@[irreducible] noncomputable def eI(o:aV)(nx:En->af->Prop)(rt:W->af->Prop)(bk ct:En->af->Prop):Prop:=match o with
 | .nx ρ M=>nx ρ M
 | .rt w M=>rt w M
 | .bk ρ M=>bk ρ M
 | .ct ρ M=>ct ρ M
 | .er x M=>Er.er x M
 | .aa=>False
section
variable {nx:En->af->Prop} {rt:W->af->Prop} {bk ct:En->af->Prop}
theorem dh{ρ:En}{M:af}:eI (.nx ρ M) nx rt bk ct=nx ρ M:=by unfold eI;exact propext nh
theorem gr{w:W}{M:af}:eI (.rt w M) nx rt bk ct=rt w M:=by unfold eI;exact propext nh
theorem lB{ρ:En}{M:af}:eI (.bk ρ M) nx rt bk ct=bk ρ M:=by unfold eI;exact propext nh
theorem lC{ρ:En}{M:af}:eI (.ct ρ M) nx rt bk ct=ct ρ M:=by unfold eI;exact propext nh
theorem ia{x:yR}{M:af}:eI (.er x M) nx rt bk ct=Er.er x M:=by unfold eI;exact propext nh
theorem cL:eI .aa nx rt bk ct=False:=by unfold eI;exact propext nh
theorem dC{α:Type}{o:bE α}{f:α->af->aV}:eI (aV.fv o f) nx rt bk ct=aQ o λa M=>eI (f a M) nx rt bk ct:=by
 cases o with
 | ok a M=>rw[aK];rfl
 | err _ _=>rw[dB];exact ia
 | aa=>rw[aj];exact cL
theorem CW{o:aV}{f:En->af->aV}:eI (o.seq f) nx rt bk ct=eI o (λρ M=>eI (f ρ M) nx rt bk ct) rt bk ct:=by
 cases o with
 | nx ρ M=>rw[dh];rfl
 | rt ρ M=>rw[gr];exact gr
 | bk ρ M=>rw[lB];exact lB
 | ct ρ M=>rw[lC];exact lC
 | er ρ M=>rw[ia];exact ia
 | aa=>rw[cL];exact cL
end
theorem CY{G:bo}{n:Nat}{b:List S}{ds:List D}{M:af}{P:W->af->Prop}:aQ (ah G n b ds M) P=eI (cm G b (fE n ds) M) (λ_ M=>P (.d .ba) M) P (λ_ _=>False) (λ_ _=>False):=by
 unfold ah
 cases cm G b (fE n ds) M with
 | nx ρ M=>rw[dh];exact aK
 | rt ρ M=>rw[gr];exact aK
 | bk ρ M=>rw[lB];exact aj
 | ct ρ M=>rw[lC];exact aj
 | er ρ M=>rw[ia];exact dB
 | aa=>rw[cL];exact aj
section
variable {G:bo} {ρ:En} {M:af} {P:W->af->Prop}
theorem Qd{d:D}:aQ (ev G (.a8 d) ρ M) P=P (.d d) M:=by simp only[Ig,aK]
theorem Qe{op:AO}{a b:C}:aQ (ev G (.bin op a b) ρ M) P=aQ (ev G a ρ M) λx M=>aQ (ev G b ρ M) λy M=>aQ (pI op x y M) P:=by simp only[Ih,ak]
theorem Qf{op:vE}{a b:C}:aQ (ev G (.cmp op a b) ρ M) P=aQ (ev G a ρ M) λx M=>aQ (ev G b ρ M) λy M=>aQ (bD op x y M) λr M=>P (.d (.bl r)) M:=by simp only[yW,ak,aK]
theorem Qg{c:dU}{a b:C}:aQ (ev G (.ite c a b) ρ M) P=aQ (dm G c ρ M) λr M=>if r then aQ (ev G a ρ M) P else aQ (ev G b ρ M) P:=by
 simp only[yX,ak]
 congr 1;funext r M
 cases r<;>rfl
theorem Qh{cs:List C}:aQ (ev G (.tup cs) ρ M) P=aQ (bh G cs ρ M) λds M=>ds.length<=sizeLine/\P (.d (.tup ds)) M:=by
 simp only[yY,ak,gD,aK]
theorem Qi{cs:List C}:aQ (ev G (.lst cs) ρ M) P=aQ (bh G cs ρ M) λds M=>ds.length<=sizeLine/\P (.lv ds) M:=by
 simp only[yZ,ak,gD,aK]
theorem k_sub{a b:C}:aQ (ev G (.sub a b) ρ M) P=aQ (ev G a ρ M) λx M=>aQ (ev G b ρ M) λy M=>aQ (dN x y M) P:=by simp only[Ij,ak]
theorem Qj{a:C}{lo hi:Option C}:aQ (ev G (.pG a lo hi) ρ M) P=aQ (ev G a ρ M) λx M=>aQ (oK G lo ρ M) λl M=>aQ (oK G hi ρ M) λh M=>aQ (kM x l h M) P:=by simp only[Ik,ak]
theorem UG{P:Option Int->af->Prop}:aQ (oK G none ρ M) P=P none M:=by simp only[kU,kW,aK]
theorem Jx{f:Nat}{cs:List C}:aQ (ev G (.call f cs) ρ M) P=aQ (bh G cs ρ M) λds M=>aQ (G f ds M) P:=by simp only[tu,ak]
theorem UH{b:Bi}{cs:List C}:aQ (ev G (.bi b cs) ρ M) P=aQ (cI G cs ρ M) λws M=>aQ (ja b ws M) P:=by simp only[y0,ak]
theorem UI{m:Me}{o:C}{cs:List C}:aQ (ev G (.me m o cs) ρ M) P=aQ (ev G o ρ M) λx M=>(eu M x).isSome=true/\aQ (bh G cs ρ M) λds M=>aQ (oJ m x ds M) P:=by
 simp only[y1,ak,gD]
theorem Qk{ks:List Str}{cs:List C}:aQ (ev G (.wg ks cs) ρ M) P=aQ (bh G cs ρ M) λds M=>ks.length=ds.length/\P (.d (.aB M.length)) (M++[.dK ((ks.map Sum.inr).zip ds)]):=by
 simp only[rF,ak,gD,aK]
theorem Jy{k:SK}{cU:List C}{tg:List Nat}{cond:Option dU}{elt:C}{cx:List (Option Nat)}:aQ (ev G (.comp k cU tg cond elt cx) ρ M) P=aQ (cI G cU ρ M) λws M=>aQ (gf k ws M) λit M=>aQ (bq (λτ M=>bL G cond τ M) (λτ M=>(ev G elt τ M).bind own) it tg (cO M it) 0 (d0 cx ρ) M []) P:=by simp only[nS,ak]
theorem UJ{P:List D->af->Prop}:aQ (bh G [] ρ M) P=P [] M:=by simp only[fk,d8,aK]
theorem UK{c:C}{cs:List C}{P:List D->af->Prop}:aQ (bh G (c::cs) ρ M) P=aQ (ev G c ρ M) λw M=>aQ (own w M) λd M=>aQ (bh G cs ρ M) λds M=>P (d::ds) M:=by simp only[fk,d8,ak,aK]
theorem UL{P:List W->af->Prop}:aQ (cI G [] ρ M) P=P [] M:=by simp only[fm,d9,aK]
theorem UM{c:C}{cs:List C}{P:List W->af->Prop}:aQ (cI G (c::cs) ρ M) P=aQ (ev G c ρ M) λw M=>aQ (cI G cs ρ M) λds M=>P (w::ds) M:=by simp only[fm,d9,ak,aK]
theorem Ql{c:C}{P:Bool->af->Prop}:aQ (dm G (.val c) ρ M) P=aQ (ev G c ρ M) λw M=>∃r,md M w=some r/\P r M:=by
 simp only[nT,ak]
 congr 1;funext w M
 cases h:md M w with
 | none=>simp only[reduceCtorEq,false_and,exists_false,aj]
 | some r=>simp only[qL,exists_eq_left',aK]
theorem Qm{a:dU}{P:Bool->af->Prop}:aQ (dm G (.neg a) ρ M) P=aQ (dm G a ρ M) λr M=>P (!r) M:=by simp only[Cg,ak,aK]
theorem Jz{a:dU}{P:Bool->af->Prop}:aQ (eN G [a] ρ M) P=aQ (dm G a ρ M) P:=by simp only[jt,g9,ak,aK]
theorem JA{a:dU}{P:Bool->af->Prop}:aQ (eO G [a] ρ M) P=aQ (dm G a ρ M) P:=by simp only[ju,g_,ak,aK]
theorem JB{a b:dU}{cs:List dU}{P:Bool->af->Prop}:aQ (eN G (a::b::cs) ρ M) P=aQ (dm G a ρ M) λr M=>if r then aQ (eN G (b::cs) ρ M) P else P false M:=by
 rw[g9];simp only[ak]
 congr 1;funext r M
 cases r with
 | true=>rfl
 | false=>exact aK
theorem JC{a b:dU}{cs:List dU}{P:Bool->af->Prop}:aQ (eO G (a::b::cs) ρ M) P=aQ (dm G a ρ M) λr M=>if r then P true M else aQ (eO G (b::cs) ρ M) P:=by
 rw[g_];simp only[ak]
 congr 1;funext r M
 cases r with
 | true=>exact aK
 | false=>rfl
theorem JD{ts:List dU}{P:Bool->af->Prop}:aQ (dm G (.dS ts) ρ M) P=aQ (eN G ts ρ M) P:=by simp only[y4]
theorem JE{ts:List dU}{P:Bool->af->Prop}:aQ (dm G (.dJ ts) ρ M) P=aQ (eO G ts ρ M) P:=by simp only[y6]
end
section
variable {G:bo} {ρ:En} {M:af} {nx:En->af->Prop} {rt:W->af->Prop} {bk ct:En->af->Prop}
theorem JF{i:Nat}{c:C}:eI (gp G (.jV i c) ρ M) nx rt bk ct=aQ (ev G c ρ M) λw M=>aQ (own w M) λd M=>nx (ρ.set i (some d)) M:=by simp only[p6,dC,ak,dh]
theorem Qn{o i v:C}:eI (gp G (.put o i v) ρ M) nx rt bk ct=aQ (ev G v ρ M) λw M=>aQ (own w M) λd M=>aQ (ev G o ρ M) λx M=>aQ (ev G i ρ M) λy M=>aQ (iG x y d M) λ_ M=>nx ρ M:=by simp only[t6,dC,ak,dh]
theorem JG{c:C}:eI (gp G (.expr c) ρ M) nx rt bk ct=aQ (ev G c ρ M) λ_ M=>nx ρ M:=by simp only[p7,dC,dh]
theorem Qo{c:C}:eI (gp G (.ret c) ρ M) nx rt bk ct=aQ (ev G c ρ M) rt:=by simp only[t7,dC,gr]
theorem UN{t:dU}{a b:List S}:eI (gp G (.iff t a b) ρ M) nx rt bk ct=aQ (dm G t ρ M) λr M=>if r then eI (cm G a ρ M) nx rt bk ct else eI (cm G b ρ M) nx rt bk ct:=by
 simp only[t9,dC]
 congr 1;funext r M
 cases r<;>rfl
theorem Qp{tg:List Nat}{k:SK}{cU:List C}{b:List S}:eI (gp G (.cA tg k cU b) ρ M) nx rt bk ct=aQ (cI G cU ρ M) λws M=>aQ (gf k ws M) λit M=>eI (cX (λρ M=>cm G b ρ M) it tg (cO M it) 0 ρ M) nx rt bk ct:=by
 simp only[p9,dC,cP,ak]
theorem Qq:eI (cm G [] ρ M) nx rt bk ct=nx ρ M:=by simp only[qa,mO,dh]
theorem JH{s:S}{ss:List S}:eI (cm G (s::ss) ρ M) nx rt bk ct=eI (gp G s ρ M) (λρ M=>eI (cm G ss ρ M) nx rt bk ct) rt bk ct:=by simp only[qa,mO,CW]
end
theorem om{body:En->af->aV}{it:It}{tg:List Nat}{ds:List D}{nx:En->af->Prop}{rt:W->af->Prop}{bk ct:En->af->Prop}(I:Nat->En->af->Prop)(hd:∀i ρ M,I i ρ M->i<=ds.length->itemAt M i it=some ds[i]?)(hs:∀i ρ M d,I i ρ M->ds[i]?=some d->∃d4,bR tg d ρ=some d4/\eI (body d4 M) (I (i+1)) rt nx (I (i+1)))(he:∀ρ M,I ds.length ρ M->nx ρ M):∀(f i:Nat)(ρ:En)(M:af),I i ρ M->i+f=ds.length->eI (cX body it tg f i ρ M) nx rt bk ct
 | 0,i,ρ,M,h,e=>by
  unfold cX;have:i=ds.length:=∅;subst this;rw[hd _ _ _ h (a7 _),Bc (a7 _)];dsimp only;rw[dh];exact he _ _ h
 | f+1,i,ρ,M,h,e=>by
  unfold cX;have hi:i<ds.length:=∅;rw[hd _ _ _ h (wK hi),fx hi];obtain⟨d4,e1,e2⟩:=hs i ρ M ds[i] h (fx hi);dsimp only;rw[e1];dsimp only
  cases q:body d4 M with
  | nx Jm M2=>rw[q,dh]at e2;exact om I hd hs he f (i+1) Jm M2 e2 ∅
  | ct Jm M2=>rw[q,lC]at e2;exact om I hd hs he f (i+1) Jm M2 e2 ∅
  | bk Jm M2=>rw[q,lB]at e2;dsimp only;rw[dh];exact e2
  | rt w M2=>rw[q,gr]at e2;dsimp only;rw[gr];exact e2
  | er x M2=>rw[q,ia]at e2;dsimp only;rw[ia];exact e2
  | aa=>rw[q,cL]at e2;exact e2.elim
theorem oo{cond:En->af->bE Bool}{elt:En->af->bE D}{it:It}{tg:List Nat}{ds:List D}{P:W->af->Prop}(I:Nat->En->af->List D->Prop)(hd:∀i ρ M aA,I i ρ M aA->i<=ds.length->itemAt M i it=some ds[i]?)(hs:∀i ρ M aA d,I i ρ M aA->ds[i]?=some d->aA.length<sizeLine/\∃d4,bR tg d ρ=some d4/\@aQ dP _ (cond d4 M) λb M=>if b then @aQ dP _ (elt d4 M) λx M=>I (i+1) d4 M (aA++[x]) else I (i+1) d4 M aA)(he:∀ρ M aA,I ds.length ρ M aA->P (.lv aA) M):∀(f i:Nat)(ρ:En)(M:af)(aA:List D),I i ρ M aA->i+f=ds.length->aQ (bq cond elt it tg f i ρ M aA) P
 | 0,i,ρ,M,aA,h,e=>by
  unfold bq;have:i=ds.length:=∅;subst this;rw[hd _ _ _ _ h (a7 _),Bc (a7 _)];dsimp only;rw[aK];exact he _ _ _ h
 | f+1,i,ρ,M,aA,h,e=>by
  unfold bq;have hi:i<ds.length:=∅;rw[hd _ _ _ _ h (wK hi),fx hi];obtain⟨hl,d4,e1,e2⟩:=hs i ρ M aA ds[i] h (fx hi);dsimp only;rw[e1];dsimp only;rw[aG hl,zJ];refine @aQ.imp dP _ _ _ _ e2 λb M2 q=>?_
  cases b with
  | true =>
   rw[aG rfl]at q⊢;rw[zJ];exact @aQ.imp dP _ _ _ _ q λx M3 q=>oo I hd hs he f (i+1) d4 M3 _ q ∅
  | false =>
   rw[aT (by simp)]at q⊢;exact oo I hd hs he f (i+1) d4 M2 _ q ∅
end
section
variable [er:Er]
noncomputable def cY{α:Type}(o:bE α)(P:α->af->Prop):Prop:=match o with
 | .ok a M=>P a M
 | .err x M=>Er.er x M
 | .aa=>False
theorem JI{o:bE W}{P:W->af->Prop}:aQ (o.b0 .ok) P=@aQ dP _ o P:=by
 cases o with
 | ok a M=>rw[aK (er:=dP)];exact aK
 | err _ _=>rw[dB (er:=dP)];exact aj
 | aa=>rw[aj (er:=dP)];exact aj
theorem bf{α:Type}{o:bE α}{P:α->af->Prop}:aQ o P=cY o P:=by
 cases o with
 | ok a M=>rw[aK];rfl
 | err _ _=>rw[dB];rfl
 | aa=>rw[aj];rfl
noncomputable def vX(x:W)(A B:Prop):Prop:=match x with
 | .d (.bl true)=>A
 | .d (.bl false)=>B
 | _=>False
noncomputable def bK(b:Bool)(A B:Prop):Prop:=match b with
 | true=>A
 | false=>B
theorem ud{b:Bool}{A B:Prop}:bK b A B=if b=true then A else B:=by cases b<;>simp[bK]
noncomputable def CZ(o:Option Bool)(P:Bool->Prop):Prop:=match o with
 | some r=>P r
 | none=>False
noncomputable def Qr(o:Option (Option D))(P:D->Prop):Prop:=match o with
 | some (some d)=>P d
 | _=>False
noncomputable def C0(o:Option En)(P:En->Prop):Prop:=match o with
 | some ρ=>P ρ
 | none=>False
noncomputable def Qs(w:W)(P:Int->Prop):Prop:=match w with
 | .d (.int i)=>P i
 | _=>False
noncomputable def WJ(o:Option Str)(k:Str->Prop):Prop:=match o with
 | some p=>k p
 | none=>False
noncomputable def Qt(w:W)(P:Str->Prop):Prop:=match w with
 | .d (.str i)=>P i
 | _=>False
noncomputable def F2:D->Bool
 | .ba=>true
 | _=>false
theorem zK{i:Int}:SeqAt.shaped (.int i)=true:=by unfold SeqAt.shaped;rw[PyData.canLay0.eq_3,PyData.depth.eq_6];rfl
theorem Qu{M:af}{i j:Int}:bD .eq (.d (.int i)) (.d (.int j)) M=.ok (i==j) M:=by
 unfold bD;have h1:∀i,jZ M (.d (.int i))=some (.int i):=λi=>by show eG M 30 (.int i)=_;unfold eG;rfl
 simp only[h1,zK,nc,fO,PyData.eqv.eq_5]
theorem Qv{M:af}{i j:Int}:bD .ne (.d (.int i)) (.d (.int j)) M=.ok (!(i==j)) M:=by
 unfold bD;have h1:∀i,jZ M (.d (.int i))=some (.int i):=λi=>by show eG M 30 (.int i)=_;unfold eG;rfl
 simp only[h1,zK,nc,fO,PyData.eqv.eq_5]
def JJ(op:AO)(x y:W)(M:af)(P:W->af->Prop):Prop:=match op,x,y with
 | .add,.d (.int i),.d (.int j)=>P (.d (.int (i+j))) M
 | .sub,.d (.int i),.d (.int j)=>P (.d (.int (i-j))) M
 | .mul,.d (.int i),.d (.int j)=>((-(2 ^ 64)<i/\i<2 ^ 64)\/(-(2 ^ 64)<j/\j<2 ^ 64))/\P (.d (.int (i*j))) M
 | .fdiv,.d (.int i),.d (.int j)=>(0<j/\j<1073741824)/\P (.d (.int (i / j))) M
 | .mod,.d (.int i),.d (.int j)=>0<j/\P (.d (.int (i % j))) M
 | .add,.d (.tup xs),.d (.tup ys)=>xs.length+ys.length<=sizeLine/\P (.d (.tup (xs++ys))) M
 | .add,.lv xs,.lv ys=>xs.length+ys.length<=sizeLine/\P (.lv (xs++ys)) M
 | .mul,.d (.tup xs),.d (.int k)=>(-(2 ^ 63)<=k/\k<2 ^ 63/\xs.length*k.toNat<=sizeLine)/\P (.d (.tup (List.replicate k.toNat xs).flatten)) M
 | op,x,y=>cY (pI op x y M) P
theorem jB{α:Type}{c:Prop}[Decidable c]{a:α}{M:af}{P:α->af->Prop}:cY (if c then .ok a M else .aa) P=(c/\P a M):=by
 by_cases h:c
 ·rw[aG h];exact propext ⟨λq=>⟨h,q⟩,λq=>q.2⟩
 ·rw[aT h];exact propext ⟨λq=>q.elim,λq=>absurd q.1 h⟩
theorem C1{op:AO}{x y:W}{M:af}{P:W->af->Prop}:cY (pI op x y M) P=JJ op x y M P:=by
 rcases x with⟨_|_ | i | _ | xs | _|_⟩ | xs
 all_goals (first | (cases op<;>rfl) | skip)
 ·rcases y with⟨_|_ | j | _|_|_|_⟩|_<;>cases op<;>first | rfl | exact jB
 ·rcases y with⟨_|_|_|_ | ys | _|_⟩|_<;>cases op<;>first | rfl | exact jB
 ·rcases y with⟨_|_|_|_|_|_|_⟩ | ys<;>cases op<;>first | rfl | exact jB
def rT(op:vE)(x y:W)(M:af)(P:Bool->af->Prop):Prop:=match op,x,y with
 | .eq,.d (.int i),.d (.int j)=>P (i==j) M
 | .ne,.d (.int i),.d (.int j)=>P (!(i==j)) M
 | .isN,.d d,_=>P (F2 d) M
 | .notN,.d d,_=>P (!F2 d) M
 | op,x,y=>cY (bD op x y M) P
theorem oq{op:vE}{x y:W}{M:af}{P:Bool->af->Prop}:cY (bD op x y M) P=rT op x y M P:=by
 cases op
 case eq=>rcases x with⟨_|_ | i | _|_|_|_⟩|_<;>first | rfl | (rcases y with⟨_|_ | j | _|_|_|_⟩|_<;>first | (rw[Qu];rfl) | rfl)
 case ne=>rcases x with⟨_|_ | i | _|_|_|_⟩|_<;>first | rfl | (rcases y with⟨_|_ | j | _|_|_|_⟩|_<;>first | (rw[Qv];rfl) | rfl)
 case isN=>rcases x with⟨_|_|_|_|_|_|_⟩|_<;>rfl
 case notN=>rcases x with⟨_|_|_|_|_|_|_⟩|_<;>rfl
 all_goals (first | rfl | (rcases x with⟨_|_|_|_|_|_|_⟩|_<;>rfl))
def zL(k:SK)(ws:List W)(M:af)(P:It->af->Prop):Prop:=match k,ws with
 | .rng1,[.d (.int j)]=>(-(2 ^ 62)<=j/\j<2 ^ 62)/\P (.iZ 0 j.toNat) M
 | .rng2,[.d (.int i),.d (.int j)]=>(-(2 ^ 62)<=i/\i<2 ^ 62/\-(2 ^ 62)<=j/\j<2 ^ 62)/\P (.iZ i (j-i).toNat) M
 | k,ws=>cY (gf k ws M) P
theorem ue{k:SK}{ws:List W}{M:af}{P:It->af->Prop}:cY (gf k ws M) P=zL k ws M P:=by
 cases k
 case rng1 =>
  rcases ws with _|⟨w,_|⟨_,_⟩⟩
  ·rfl
  all_goals rcases w with⟨_|_|_|_|_|_|_⟩|_<;>first | rfl | exact jB
 case rng2 =>
  rcases ws with _|⟨w,_|⟨v,_|⟨_,_⟩⟩⟩<;>try rfl
  ·rcases w with⟨_|_|_|_|_|_|_⟩|_<;>rfl
  ·rcases w with⟨_|_|_|_|_|_|_⟩|_<;>first | rfl | (rcases v with⟨_|_|_|_|_|_|_⟩|_<;>first | rfl | exact jB)
  ·rcases w with⟨_|_|_|_|_|_|_⟩|_<;>first | rfl | (rcases v with⟨_|_|_|_|_|_|_⟩|_<;>rfl)
 all_goals rfl
def C2(tp:Bool)(ws:List W)(M:af)(P:W->af->Prop):Prop:=match rC ws with
 | some (i,j)=>((-(2 ^ 62)<=i/\i<2 ^ 62/\-(2 ^ 62)<=j/\j<2 ^ 62)/\(j-i).toNat<=2 ^ 24)/\P (yU tp (Ph i (j-i).toNat)) M
 | none=>False
theorem C3{tp:Bool}{ws:List W}{M:af}{P:W->af->Prop}:cY (Ca tp ws M) P=C2 tp ws M P:=by
 unfold Ca C2
 cases rC ws with
 | none=>rfl
 | some ij=>exact jB
mutual
noncomputable def wE(G:bo):C->En->af->(W->af->Prop)->Prop
  | .eZ i,ρ,M,P=>Qr ρ[i]? λd=>P (.d d) M
  | .a8 d,_,M,P=>P (.d d) M
  | .bin op a b,ρ,M,P=>wE G a ρ M λx M=>wE G b ρ M λy M=>JJ op x y M P
  | .cmp op a b,ρ,M,P=>wE G a ρ M λx M=>wE G b ρ M λy M=>rT op x y M λr M=>P (.d (.bl r)) M
  | .chain o1 o2 a b c, ρ, M, P => wE G a ρ M fun x M => wE G b ρ M fun y M => rT o1 x y M fun r M =>
      bK r (wE G c ρ M λz M=>rT o2 y z M λr M=>P (.d (.bl r)) M) (P (.d (.bl false)) M)
  | .dS cs,ρ,M,P=>vY G cs ρ M P
  | .dJ cs,ρ,M,P=>Lm G cs ρ M P
  | .neg a,ρ,M,P=>wE G a ρ M λx M=>vX x (P (.d (.bl false)) M) (P (.d (.bl true)) M)
  | .ite c a b,ρ,M,P=>wT G c ρ M λr M=>bK r (wE G a ρ M P) (wE G b ρ M P)
  | .tup cs,ρ,M,P=>oM G cs ρ M λds M=>ds.length<=sizeLine/\P (.d (.tup ds)) M
  | .lst cs,ρ,M,P=>oM G cs ρ M λds M=>ds.length<=sizeLine/\P (.lv ds) M
  | .sub a b,ρ,M,P=>wE G a ρ M λx M=>wE G b ρ M λy M=>cY (dN x y M) P
  | .pG a lo hi,ρ,M,P=>wE G a ρ M λx M=>wO G lo ρ M λl M=>wO G hi ρ M λh M=>cY (kM x l h M) P
  | .call f cs,ρ,M,P=>oM G cs ρ M λds M=>aQ (G f ds M) P
  | .bi b cs,ρ,M,P=>vZ G cs ρ M λws M=>cY (ja b ws M) P
  | .me m o cs,ρ,M,P=>wE G o ρ M λx M=>(eu M x).isSome=true/\oM G cs ρ M λds M=>cY (oJ m x ds M) P
  | .wg ks cs,ρ,M,P=>oM G cs ρ M λds M=>ks.length=ds.length/\P (.d (.aB M.length)) (M++[.dK ((ks.map Sum.inr).zip ds)])
  | .iZ tp cs,ρ,M,P=>vZ G cs ρ M λws M=>C2 tp ws M P
  | .vF _ v,_,M,P=>P (.d (.int v)) M
  | .l_ ng a,ρ,M,P=>wE G a ρ M λx M=>cY (tq ng x M) P
  | .pH pt a b,ρ,M,P=>wE G a ρ M λx M=>Qt x λz=>wE G b ρ M λy M=>cY (gK pt (.d (.str z)) y M) P
  | .wj lit a b,ρ,M,P=>wE G a ρ M λx M=>WJ (Cc lit x) λp=>wE G b ρ M λy M=>cY (FF lit p y M) P
  | .cat a b,ρ,M,P=>wE G a ρ M λx M=>wE G b ρ M λy M=>cY (rE x y M) P
  | .iA _ tt b,ρ,M,P=>wE G b ρ M λy M=>cY (nR tt y M) P
  | .vG cS a,ρ,M,P=>wE G a ρ M λx M=>cY (kR cS x M) P
  | .vH _ a,_,M,P=>P (.d (.fn a)) M
  | .rB _ v,_,M,P=>P (.d (.str v)) M
  | .dM i tb cs,ρ,M,P=>match vI ρ i tb with
    | some f=>oM G cs ρ M λds M=>aQ (G f ds M) P
    | none=>False
  | .xf a f,ρ,M,P=>wE G a ρ M λx M=>cY (RB f x M) P
  | .B9 a _ tb,ρ,M,P=>wE G a ρ M λx M=>cY (Cb tb x M) P
  | .jG f cs,ρ,M,P=>oM G cs ρ M λds M=>@aQ dP _ (G f ds M) P
  | .comp k cU tg cond elt cx,ρ,M,P=>vZ G cU ρ M λws M=>zL k ws M λit M=>aQ (bq (λτ M=>bL G cond τ M) (λτ M=>(ev G elt τ M).bind own) it tg (cO M it) 0 (d0 cx ρ) M []) P
noncomputable def wT(G:bo):dU->En->af->(Bool->af->Prop)->Prop
 | .dS ts,ρ,M,P=>JK G ts ρ M P
 | .dJ ts,ρ,M,P=>JL G ts ρ M P
 | .neg a,ρ,M,P=>wT G a ρ M λr M=>P (!r) M
 | .val c,ρ,M,P=>wE G c ρ M λw M=>CZ (md M w) λr=>P r M
noncomputable def vY(G:bo):List C->En->af->(W->af->Prop)->Prop
 | [],_,_,_=>False
 | c::cs,ρ,M,P=>match cs with
  | []=>wE G c ρ M P
  | _::_=>wE G c ρ M λx M=>vX x (vY G cs ρ M P) (P (.d (.bl false)) M)
noncomputable def Lm(G:bo):List C->En->af->(W->af->Prop)->Prop
 | [],_,_,_=>False
 | c::cs,ρ,M,P=>match cs with
  | []=>wE G c ρ M P
  | _::_=>wE G c ρ M λx M=>vX x (P (.d (.bl true)) M) (Lm G cs ρ M P)
noncomputable def JK(G:bo):List dU->En->af->(Bool->af->Prop)->Prop
 | [],_,_,_=>False
 | c::cs,ρ,M,P=>match cs with
  | []=>wT G c ρ M P
  | _::_=>wT G c ρ M λr M=>bK r (JK G cs ρ M P) (P false M)
noncomputable def JL(G:bo):List dU->En->af->(Bool->af->Prop)->Prop
 | [],_,_,_=>False
 | c::cs,ρ,M,P=>match cs with
  | []=>wT G c ρ M P
  | _::_=>wT G c ρ M λr M=>bK r (P true M) (JL G cs ρ M P)
noncomputable def oM(G:bo):List C->En->af->(List D->af->Prop)->Prop
 | [],_,M,P=>P [] M
 | c::cs,ρ,M,P=>wE G c ρ M λw M=>cY (own w M) λd M=>oM G cs ρ M λds M=>P (d::ds) M
noncomputable def vZ(G:bo):List C->En->af->(List W->af->Prop)->Prop
 | [],_,M,P=>P [] M
 | c::cs,ρ,M,P=>wE G c ρ M λw M=>vZ G cs ρ M λws M=>P (w::ws) M
noncomputable def wO(G:bo):Option C->En->af->(Option Int->af->Prop)->Prop
 | none,_,M,P=>P none M
 | some c,ρ,M,P=>wE G c ρ M λw M=>Qs w λi=>P (some i) M
end
section
variable {G:bo} {lo hi:Option C} {cond:Option dU}
theorem JM:wE G (.eZ i) ρ M P=Qr ρ[i]? λd=>P (.d d) M:=rfl
theorem JN:wE G (.bin op a b) ρ M P=wE G a ρ M λx M=>wE G b ρ M λy M=>JJ op x y M P:=rfl
theorem JO:wE G (.cmp op a b) ρ M P=wE G a ρ M λx M=>wE G b ρ M λy M=>rT op x y M λr M=>P (.d (.bl r)) M:=rfl
theorem zM : wE G (.chain o1 o2 a b c) ρ M P = (wE G a ρ M fun x M => wE G b ρ M fun y M => rT o1 x y M fun r M =>
      bK r (wE G c ρ M λz M=>rT o2 y z M λr M=>P (.d (.bl r)) M) (P (.d (.bl false)) M)):=rfl
theorem JP:wE G (.neg a) ρ M P=wE G a ρ M λx M=>vX x (P (.d (.bl false)) M) (P (.d (.bl true)) M):=rfl
theorem JQ:wE G (.ite c a b) ρ M P=wT G c ρ M λr M=>bK r (wE G a ρ M P) (wE G b ρ M P):=rfl
theorem JR:wE G (.sub a b) ρ M P=wE G a ρ M λx M=>wE G b ρ M λy M=>cY (dN x y M) P:=rfl
theorem JS:wE G (.pG a lo hi) ρ M P=wE G a ρ M λx M=>wO G lo ρ M λl M=>wO G hi ρ M λh M=>cY (kM x l h M) P:=rfl
theorem Qw:wE G (.bi b cs) ρ M P=vZ G cs ρ M λws M=>cY (ja b ws M) P:=rfl
theorem Qx:wE G (.me m o cs) ρ M P=wE G o ρ M λx M=>(eu M x).isSome=true/\oM G cs ρ M λds M=>cY (oJ m x ds M) P:=rfl
theorem JT:wE G (.iZ tp cs) ρ M P=vZ G cs ρ M λws M=>C2 tp ws M P:=rfl
theorem C4:wE G (.l_ ng a) ρ M P=wE G a ρ M λx M=>cY (tq ng x M) P:=rfl
theorem Qy{f:Str}:wE G (.xf a f) ρ M P=wE G a ρ M λx M=>cY (RB f x M) P:=rfl
theorem JU{k:IX}{tb:List (Addr×Bool)}:wE G (.B9 a k tb) ρ M P=wE G a ρ M λx M=>cY (Cb tb x M) P:=rfl
theorem JV{pt:Bool}{a b:C}:wE G (.pH pt a b) ρ M P=wE G a ρ M λx M=>Qt x λz=>wE G b ρ M λy M=>cY (gK pt (.d (.str z)) y M) P:=rfl
theorem JW{lit:Str}{a b:C}:wE G (.wj lit a b) ρ M P=wE G a ρ M λx M=>WJ (Cc lit x) λp=>wE G b ρ M λy M=>cY (FF lit p y M) P:=rfl
theorem JX{a b:C}:wE G (.cat a b) ρ M P=wE G a ρ M λx M=>wE G b ρ M λy M=>cY (rE x y M) P:=rfl
theorem C5{x:Str}{tt:rA}{b:C}:wE G (.iA x tt b) ρ M P=wE G b ρ M λy M=>cY (nR tt y M) P:=rfl
theorem JY{cS:Str}{a:C}:wE G (.vG cS a) ρ M P=wE G a ρ M λx M=>cY (kR cS x M) P:=rfl
theorem zN{i:Nat}{tb:List (Addr×Nat)}{cs:List C}:wE G (.dM i tb cs) ρ M P=(match vI ρ i tb with
 | some f=>oM G cs ρ M λds M=>aQ (G f ds M) P
 | none=>False):=rfl
theorem C6:wE G (.comp k cU tg cond elt cx) ρ M P=vZ G cU ρ M λws M=>zL k ws M λit M=>aQ (bq (λτ M=>bL G cond τ M) (λτ M=>(ev G elt τ M).bind own) it tg (cO M it) 0 (d0 cx ρ) M []) P:=rfl
theorem JZ:wT G (.val c) ρ M P=wE G c ρ M λw M=>CZ (md M w) λr=>P r M:=rfl
theorem zO:vY G [] u0 u1 u2=False:=rfl
theorem mT : vY G (c :: cs) ρ M P = (match cs with
    | []=>wE G c ρ M P
    | _::_=>wE G c ρ M λx M=>vX x (vY G cs ρ M P) (P (.d (.bl false)) M)):=rfl
theorem C7:Lm G [] u0 u1 u2=False:=rfl
theorem qg : Lm G (c :: cs) ρ M P = (match cs with
    | []=>wE G c ρ M P
    | _::_=>wE G c ρ M λx M=>vX x (P (.d (.bl true)) M) (Lm G cs ρ M P)):=rfl
theorem C8:oM G [] u0 M P=P [] M:=rfl
theorem zP:oM G (c::cs) ρ M P=wE G c ρ M λw M=>cY (own w M) λd M=>oM G cs ρ M λds M=>P (d::ds) M:=rfl
theorem C9:vZ G [] u0 M P=P [] M:=rfl
theorem zQ:vZ G (c::cs) ρ M P=wE G c ρ M λw M=>vZ G cs ρ M λws M=>P (w::ws) M:=rfl
theorem C_:wO G none u0 M P=P none M:=rfl
theorem Dc:wO G (some c) ρ M P=wE G c ρ M λw M=>Qs w λi=>P (some i) M:=rfl
end
def lD(G:bo)(o:Option dU)(ρ:En)(M:af)(P:Bool->af->Prop):Prop:=match o with
 | none=>P true M
 | some t=>wT G t ρ M P
mutual
theorem e_{G:bo}:∀(c:C)(ρ:En)(M:af)(P:W->af->Prop),aQ (ev G c ρ M) P=wE G c ρ M P
 | .eZ i,ρ,M,P=>by
  simp only[yV,JM];rcases ρ[i]? with _|_ | d
  ·exact aj
  ·exact aj
  ·exact aK
 | .a8 d,ρ,M,P=>by rw[Qd];rfl
 | .bin op a b,ρ,M,P=>by rw[Qe,e_ a];simp only[e_ b,bf,JN,C1]
 | .cmp op a b,ρ,M,P=>by rw[Qf,e_ a];simp only[e_ b,bf,JO,oq]
 | .chain o1 o2 a b c,ρ,M,P=>by
  simp only[pN,ak,zM];rw[e_ a]
  congr 1;funext x M
  rw[e_ b]
  congr 1;funext y M
  rw[bf,oq]
  congr 1;funext r M
  cases r with
  | true=>simp only[ak,aK,fO,e_ c];simp only[bf,oq];rfl
  | false=>simp[aK,bK]
 | .dS cs,ρ,M,P=>by rw[Cd,w_and cs];rfl
 | .dJ cs,ρ,M,P=>by rw[Ce,w_or cs];rfl
 | .neg a,ρ,M,P=>by
  simp only[Ii,ak,JP];rw[e_ a]
  congr 1;funext x M
  rcases x with⟨_ | b | _|_|_|_|_⟩|_
  ·exact aj
  ·cases b<;>exact aK
  all_goals exact aj
 | .ite c a b,ρ,M,P=>by rw[Qg,F3 c];simp only[e_ a,e_ b,JQ,ud]
 | .tup cs,ρ,M,P=>by rw[Qh,mi cs];rfl
 | .lst cs,ρ,M,P=>by rw[Qi,mi cs];rfl
 | .sub a b,ρ,M,P=>by rw[k_sub,e_ a];simp only[e_ b,bf,JR]
 | .pG a lo hi,ρ,M,P=>by rw[Qj,e_ a];simp only[WK lo,WK hi,bf,JS]
 | .call f cs,ρ,M,P=>by rw[Jx,mi cs];rfl
 | .bi b cs,ρ,M,P=>by rw[UH,zR cs];simp only[bf,Qw]
 | .me m o cs,ρ,M,P=>by rw[UI,e_ o];simp only[mi cs,bf,Qx]
 | .wg ks cs,ρ,M,P=>by rw[Qk,mi cs];rfl
 | .iZ tp cs,ρ,M,P=>by simp only[Il,ak,JT];rw[zR cs];simp only[bf,C3]
 | .vF x v,ρ,M,P=>by rw[Im];exact aK
 | .l_ ng a,ρ,M,P=>by simp only[Cf,ak,C4];rw[e_ a];simp only[bf]
 | .xf a f,ρ,M,P=>by simp only[Pj,ak,Qy];rw[e_ a];simp only[bf]
 | .B9 a k tb,ρ,M,P=>by simp only[Io,ak,JU];rw[e_ a];simp only[bf]
 | .jG f cs,ρ,M,P=>by
  rw[y2,ak,mi cs];show oM G cs ρ M _=oM G cs ρ M _
  congr 1;funext ds M
  exact JI
 | .pH pt a b,ρ,M,P=>by
  simp only[Ir,ak,JV];rw[e_ a]
  congr 1;funext x M
  rcases x with⟨_|_|_ | z | _|_|_⟩|_
  ·exact aj
  ·exact aj
  ·exact aj
  ·simp only[ak,e_ b];simp only[bf];rfl
  all_goals exact aj
 | .wj lit a b,ρ,M,P=>by
  simp only[y3,ak,JW];rw[e_ a]
  congr 1;funext x M
  cases Cc lit x with
  | none=>exact aj
  | some p=>simp only[ak,e_ b];simp only[bf];rfl
 | .cat a b,ρ,M,P=>by simp only[Iu,ak,JX];rw[e_ a];congr 1;funext x M;rw[e_ b];simp only[bf]
 | .iA x tt b,ρ,M,P=>by simp only[tw,ak,C5];rw[e_ b];simp only[bf]
 | .vG cS a,ρ,M,P=>by simp only[Iv,ak,JY];rw[e_ a];simp only[bf]
 | .vH _ a,_,M,P=>aK
 | .rB _ v,_,M,P=>aK
 | .dM i tb cs,ρ,M,P=>by
  rw[pO,zN]
  cases vI ρ i tb with
  | some f=>dsimp only;rw[ak,mi cs]
  | none=>exact aj
 | .comp k cU tg cond elt cx,ρ,M,P=>by rw[Jy,zR cU];simp only[bf,C6,ue]
theorem F3{G:bo}:∀(c:dU)(ρ:En)(M:af)(P:Bool->af->Prop),aQ (dm G c ρ M) P=wT G c ρ M P
 | .dS cs,ρ,M,P=>by rw[JD,w_all cs];rfl
 | .dJ cs,ρ,M,P=>by rw[JE,w_any cs];rfl
 | .neg a,ρ,M,P=>by rw[Qm,F3 a];rfl
 | .val c,ρ,M,P=>by
  rw[Ql,e_ c];simp only[JZ]
  congr 1;funext w M
  cases md M w with
  | none=>simp[CZ]
  | some r=>simp[CZ]
theorem w_and{G:bo}:∀(cs:List C)(ρ:En)(M:af)(P:W->af->Prop),aQ (gR G cs ρ M) P=vY G cs ρ M P
 | [],ρ,M,P=>by rw[jq];exact aj
 | [c],ρ,M,P=>by simp only[jq,g8,zO,mT,ak,aK,e_ c]
 | c::b::cs,ρ,M,P=>by
  rw[g8,mT,ak,e_ c]
  congr 1;funext x M
  rw[<- w_and (b::cs)];rcases x with⟨_ | b | _|_|_|_|_⟩|_
  ·exact aj
  ·cases b with
   | true=>rfl
   | false=>exact aK
  all_goals exact aj
theorem w_or{G:bo}:∀(cs:List C)(ρ:En)(M:af)(P:W->af->Prop),aQ (mh G cs ρ M) P=Lm G cs ρ M P
 | [],ρ,M,P=>by rw[kT];exact aj
 | [c],ρ,M,P=>by simp only[kT,jr,C7,qg,ak,aK,e_ c]
 | c::b::cs,ρ,M,P=>by
  rw[jr,qg,ak,e_ c]
  congr 1;funext x M
  rw[<- w_or (b::cs)];rcases x with⟨_ | b | _|_|_|_|_⟩|_
  ·exact aj
  ·cases b with
   | true=>exact aK
   | false=>rfl
  all_goals exact aj
theorem w_all{G:bo}:∀(cs:List dU)(ρ:En)(M:af)(P:Bool->af->Prop),aQ (eN G cs ρ M) P=JK G cs ρ M P
 | [],ρ,M,P=>by rw[jt];exact aj
 | [c],ρ,M,P=>by rw[Jz,F3 c];rfl
 | c::b::cs,ρ,M,P=>by rw[JB,F3 c];simp only[w_all (b::cs),<- ud];rfl
theorem w_any{G:bo}:∀(cs:List dU)(ρ:En)(M:af)(P:Bool->af->Prop),aQ (eO G cs ρ M) P=JL G cs ρ M P
 | [],ρ,M,P=>by rw[ju];exact aj
 | [c],ρ,M,P=>by rw[JA,F3 c];rfl
 | c::b::cs,ρ,M,P=>by rw[JC,F3 c];simp only[w_any (b::cs),<- ud];rfl
theorem mi{G:bo}:∀(cs:List C)(ρ:En)(M:af)(P:List D->af->Prop),aQ (bh G cs ρ M) P=oM G cs ρ M P
 | [],ρ,M,P=>by rw[UJ];rfl
 | c::cs,ρ,M,P=>by rw[UK,e_ c];simp only[mi cs,bf,C8,zP]
theorem zR{G:bo}:∀(cs:List C)(ρ:En)(M:af)(P:List W->af->Prop),aQ (cI G cs ρ M) P=vZ G cs ρ M P
 | [],ρ,M,P=>by rw[UL];rfl
 | c::cs,ρ,M,P=>by rw[UM,e_ c];simp only[zR cs,bf,C9,zQ]
theorem WK{G:bo}:∀(o:Option C)(ρ:En)(M:af)(P:Option Int->af->Prop),aQ (oK G o ρ M) P=wO G o ρ M P
 | none,ρ,M,P=>by rw[UG];rfl
 | some c,ρ,M,P=>by
  simp only[kU,kW,ak,C_,Dc];rw[e_ c]
  congr 1;funext x M
  rcases x with⟨_|_ | z | _|_|_|_⟩|_
  ·exact aj
  ·exact aj
  ·exact aK
  all_goals exact aj
end
theorem w_cond{G:bo}{o:Option dU}{ρ:En}{M:af}{P:Bool->af->Prop}:aQ (bL G o ρ M) P=lD G o ρ M P:=by
 cases o with
 | none=>exact aK
 | some t=>exact F3 t ρ M P
theorem qh{G:bo}{c:C}{ρ:En}{M:af}{P:D->af->Prop}:aQ ((ev G c ρ M).bind own) P=wE G c ρ M λw M=>cY (own w M) P:=by
 rw[ak,e_];simp only[bf]
mutual
noncomputable def wS(G:bo):S->En->af->(En->af->Prop)->(W->af->Prop)->(En->af->Prop)->(En->af->Prop)->Prop
 | .asg tg c,ρ,M,nx,_,_,_=>wE G c ρ M λw M=>cY (own w M) λd M=>C0 (bR tg d ρ) λρ=>nx ρ M
 | .jV i c,ρ,M,nx,_,_,_=>wE G c ρ M λw M=>cY (own w M) λd M=>nx (ρ.set i (some d)) M
 | .put o i v,ρ,M,nx,_,_,_=>wE G v ρ M λw M=>cY (own w M) λd M=>wE G o ρ M λx M=>wE G i ρ M λy M=>cY (iG x y d M) λ_ M=>nx ρ M
 | .dput o i v,ρ,M,nx,_,_,_=>wE G v ρ M λw M=>cY (own w M) λd M=>wE G o ρ M λx M=>wE G i ρ M λy M=>cY (tm x y d M) λ_ M=>nx ρ M
 | .par i j a b,ρ,M,nx,_,_,_=>wE G a ρ M λw M=>cY (own w M) λx M=>wE G b ρ M λw M=>cY (own w M) λy M=>nx ((ρ.set i (some x)).set j (some y)) M
 | .expr c,ρ,M,nx,_,_,_=>wE G c ρ M λ_ M=>nx ρ M
 | .ret c,ρ,M,_,rt,_,_=>wE G c ρ M rt
 | .zB,_,M,_,rt,_,_=>rt (.d .ba) M
 | .iff t a b,ρ,M,nx,rt,bk,ct=>wT G t ρ M λr M=>bK r (dy G a ρ M nx rt bk ct) (dy G b ρ M nx rt bk ct)
 | .cA tg k cU b,ρ,M,nx,rt,bk,ct=>vZ G cU ρ M λws M=>zL k ws M λit M=>eI (cX (λρ M=>cm G b ρ M) it tg (cO M it) 0 ρ M) nx rt bk ct
 | .Ji n t b,ρ,M,nx,rt,bk,ct=>eI (vU (λρ M=>dm G t ρ M) (λρ M=>cm G b ρ M) n ρ M) nx rt bk ct
 | .Jj a f c,ρ,M,_,_,_,_=>oM G c ρ M λds M=>Er.er ⟨a,f.zip ds⟩ M
 | .vT b cb mt j h,ρ,M,nx,rt,bk,ct=>eI (gp G (.vT b cb mt j h) ρ M) nx rt bk ct
 | .iQ r c,ρ,M,nx,rt,_,_=>@wE dP G c ρ M λw M=>(match r with
  | true=>rt w M
  | false=>nx ρ M)
 | .never,_,_,_,_,_,_=>False
 | .pass,ρ,M,nx,_,_,_=>nx ρ M
 | .brk,ρ,M,_,_,bk,_=>bk ρ M
 | .cont,ρ,M,_,_,_,ct=>ct ρ M
noncomputable def dy(G:bo):List S->En->af->(En->af->Prop)->(W->af->Prop)->(En->af->Prop)->(En->af->Prop)->Prop
 | [],ρ,M,nx,_,_,_=>nx ρ M
 | s::ss,ρ,M,nx,rt,bk,ct=>wS G s ρ M (λρ M=>dy G ss ρ M nx rt bk ct) rt bk ct
end
section
variable {G:bo} {lo hi:Option C} {cond:Option dU} {nx bk ct:En->af->Prop} {rt:W->af->Prop}
theorem J0:wS G (.asg tg c) ρ M nx u0 u1 u2=wE G c ρ M λw M=>cY (own w M) λd M=>C0 (bR tg d ρ) λρ=>nx ρ M:=rfl
theorem Dd:wS G (.jV i c) ρ M nx u0 u1 u2=wE G c ρ M λw M=>cY (own w M) λd M=>nx (ρ.set i (some d)) M:=rfl
theorem J4:wS G (.put o i v) ρ M nx u0 u1 u2=wE G v ρ M λw M=>cY (own w M) λd M=>wE G o ρ M λx M=>wE G i ρ M λy M=>cY (iG x y d M) λ_ M=>nx ρ M:=rfl
theorem De:wS G (.dput o i v) ρ M nx u0 u1 u2=wE G v ρ M λw M=>cY (own w M) λd M=>wE G o ρ M λx M=>wE G i ρ M λy M=>cY (tm x y d M) λ_ M=>nx ρ M:=rfl
theorem J5:wS G (.par i j a b) ρ M nx u0 u1 u2=wE G a ρ M λw M=>cY (own w M) λx M=>wE G b ρ M λw M=>cY (own w M) λy M=>nx ((ρ.set i (some x)).set j (some y)) M:=rfl
theorem J6:wS G (.iff t a b) ρ M nx rt bk ct=wT G t ρ M λr M=>bK r (dy G a ρ M nx rt bk ct) (dy G b ρ M nx rt bk ct):=rfl
theorem Df:wS G (.cA tg k cU b) ρ M nx rt bk ct=vZ G cU ρ M λws M=>zL k ws M λit M=>eI (cX (λρ M=>cm G b ρ M) it tg (cO M it) 0 ρ M) nx rt bk ct:=rfl
theorem J7:wS G (.Ji n t b) ρ M nx rt bk ct=eI (vU (λρ M=>dm G t ρ M) (λρ M=>cm G b ρ M) n ρ M) nx rt bk ct:=rfl
theorem J8{f:List Str}{c:List C}:wS G (.Jj a f c) ρ M u0 u1 u2 u3=oM G c ρ M λds M=>Er.er ⟨a,f.zip ds⟩ M:=rfl
end
mutual
theorem Y9{G:bo}:∀(s:S)(ρ:En)(M:af)(nx:En->af->Prop)(rt:W->af->Prop)(bk ct:En->af->Prop),eI (gp G s ρ M) nx rt bk ct=wS G s ρ M nx rt bk ct
 | .asg tg c,ρ,M,nx,rt,bk,ct=>by
  simp only[t5,dC,J0];rw[qh]
  congr 1;funext w M
  congr 1;funext d M
  cases bR tg d ρ with
  | none=>exact cL
  | some ρ=>exact dh
 | .jV i c,ρ,M,nx,rt,bk,ct=>by rw[JF,e_ c];simp only[bf,Dd]
 | .put o i v,ρ,M,nx,rt,bk,ct=>by rw[Qn,e_ v];simp only[e_ o,e_ i,bf,J4]
 | .dput o i v,ρ,M,nx,rt,bk,ct=>by
  simp only[zC,dC,De];rw[qh];simp only[e_ o,e_ i,bf,dh]
 | .par i j a b,ρ,M,nx,rt,bk,ct=>by
  simp only[CN,dC];rw[mi];show wE G a ρ M (λw M=>cY (own w M) λx M=>wE G b ρ M λw M=>cY (own w M) λy M=>eI (.nx ((ρ.set i (some x)).set j (some y)) M) nx rt bk ct)=_;simp only[dh,J5]
 | .expr c,ρ,M,nx,rt,bk,ct=>by rw[JG,e_ c];rfl
 | .ret c,ρ,M,nx,rt,bk,ct=>by rw[Qo,e_ c];rfl
 | .zB,ρ,M,nx,rt,bk,ct=>gr
 | .iff t a b,ρ,M,nx,rt,bk,ct=>by rw[UN,F3 t];simp only[v7 a,v7 b,J6,ud]
 | .cA tg k cU b,ρ,M,nx,rt,bk,ct=>by rw[Qp,zR cU];simp only[bf,Df,ue]
 | .Ji n t b,ρ,M,nx,rt,bk,ct=>by simp only[CO,J7]
 | .Jj a f c,ρ,M,nx,rt,bk,ct=>by
  simp only[CP,dC];rw[mi];simp only[ia,J8]
 | .vT b cb mt j h,ρ,M,nx,rt,bk,ct=>rfl
 | .iQ r c,ρ,M,nx,rt,bk,ct=>by
  show eI (gp G (.iQ r c) ρ M) nx rt bk ct=@wE dP G c ρ M _;rw[p_,<- @e_ dP G c]
  cases ev G c ρ M with
  | ok w M1=>cases r<;>(rw[@aK dP];first | exact gr | exact dh)
  | err x M1=>rw[cL,@dB dP];rfl
  | aa=>rw[cL,@aj dP]
 | .never,ρ,M,nx,rt,bk,ct=>cL
 | .pass,ρ,M,nx,rt,bk,ct=>dh
 | .brk,ρ,M,nx,rt,bk,ct=>lB
 | .cont,ρ,M,nx,rt,bk,ct=>lC
theorem v7{G:bo}:∀(ss:List S)(ρ:En)(M:af)(nx:En->af->Prop)(rt:W->af->Prop)(bk ct:En->af->Prop),eI (cm G ss ρ M) nx rt bk ct=dy G ss ρ M nx rt bk ct
 | [],ρ,M,nx,rt,bk,ct=>Qq
 | s::ss,ρ,M,nx,rt,bk,ct=>by rw[JH,Y9 s];simp only[v7 ss];rfl
end
theorem bO{G:bo}{n:Nat}{b:List S}{ds:List D}{M:af}{P:W->af->Prop}:aQ (ah G n b ds M) P=dy G b (fE n ds) M (λ_ M=>P (.d .ba) M) P (λ_ _=>False) (λ_ _=>False):=by
 rw[CY,v7]
end
section
variable [er:Er]
abbrev Fn:=List D->af->bE W
noncomputable def Fr(w:Nat)(M M':af):Prop:=M.length<=M'.length/\∀n,n<M.length->n≠w->M'[n]?=M[n]?
abbrev Ex(M M':af):Prop:=Fr M.length M M'
theorem bx{M:af}{n:Nat}{o:MO}(h:M[n]?=some o):n<M.length:=(dq.mp h).1
theorem bC{M X:af}{n:Nat}{o:MO}(h:M[n]?=some o):(M++X)[n]?=some o:=by rw[fL (bx h)];exact h
theorem a9{M:af}{o:MO}:(M++[o])[M.length]?=some o:=by simp
theorem aJ{M:af}{n m:Nat}{o u:MO}(h:M[n]?=some o)(hn:n≠m):(M.set m u)[n]?=some o:=by rw[oN (ig hn)];exact h
theorem bb{M:af}{n:Nat}{o u:MO}(h:M[n]?=some o):(M.set n u)[n]?=some u:=uF (bx h)
theorem Fr.refl(w:Nat)(M:af):Fr w M M:=⟨a7 _,λ_ _ _=>rfl⟩
theorem Fr.trans{w:Nat}{M M1 M2:af}(a:Fr w M M1)(b:Fr w M1 M2):Fr w M M2:=⟨fh a.1 b.1,λn h k=>(b.2 n (fc h a.1) k).trans (a.2 n h k)⟩
theorem Fr.app{w:Nat}{M M1 X:af}(a:Fr w M M1):Fr w M (M1++X):=⟨by have:=a.1;simp only[cz];omega,λn h k=>by rw[fL (fc h a.1)];exact a.2 n h k⟩
theorem Fr.set{w n:Nat}{M M1:af}{o:MO}(a:Fr w M M1)(h:M.length<=n):Fr w M (M1.set n o):=⟨by rw[lW];exact a.1,λm hm k=>by rw[oN ∅];exact a.2 m hm k⟩
theorem Fr.zS{w:Nat}{M M1:af}{o:MO}(a:Fr w M M1):Fr w M (M1.set w o):=⟨by rw[lW];exact a.1,λm hm k=>by rw[oN (ig k)];exact a.2 m hm k⟩
theorem Fr.get{w n:Nat}{M M1:af}{o:MO}(a:Fr w M M1)(h:M[n]?=some o)(k:n≠w):M1[n]?=some o:=(a.2 n (bx h) k).trans h
theorem Fr.back{w v:Nat}{M M1 M2:af}(a:Fr w M M1)(b:Fr v M1 M2)(h:M.length<=v\/v=w):Fr w M M2:=⟨fh a.1 b.1,λn hn k=>(b.2 n (fc hn a.1) ∅).trans (a.2 n hn k)⟩
theorem Ex.refl(M:af):Ex M M:=Fr.refl _ M
theorem Ex.get{n:Nat}{M M1:af}{o:MO}(a:Ex M M1)(h:M[n]?=some o):M1[n]?=some o:=Fr.get a h (fg (bx h))
theorem Ex.trans{M M1 M2:af}(a:Ex M M1)(b:Ex M1 M2):Ex M M2:=Fr.back a b (.inl a.1)
section
variable {M:af} {n:Nat} {ds:List D} {i:Int} {x:D}
theorem zT(hi:0<=i)(h:ds[i.toNat]?=some x):FC ds i=some x:=by
 have hl:=(dq.mp h).1;unfold FC oG yx;rw[aG hi,aG ∅];exact h
theorem dD(hM:M[n]?=some (.lst ds))(hi:0<=i)(h:ds[i.toNat]?=some x):dN (.d (.aB n)) (.d (.int i)) M=.ok (.d x) M:=by
 unfold dN b_;simp only[hM,zT hi h]
theorem ib(hi:0<=i)(h:ds[i.toNat]?=some x):dN (.lv ds) (.d (.int i)) M=.ok (.d x) M:=by
 unfold dN b_;simp only[zT hi h]
theorem zU{m:Nat}(hM:M[n]?=some (.lst ds))(h:ds[m]?=some x):dN (.d (.aB n)) (.d (.int m)) M=.ok (.d x) M:=dD hM (Int.natCast_nonneg m) (by rw[Bh];exact h)
theorem bP(hM:M[n]?=some (.lst ds))(hl:ds.length<sizeLine):oJ .append (.d (.aB n)) [x] M=.ok (.d .ba) (M.set n (.lst (ds++[x]))):=by
 unfold oJ;simp only[hM,aG hl]
theorem zV(hM:M[n]?=some (.lst ds))(hl:ds.length<sizeLine)(h0:0<=i)(h1:i<=ds.length):oJ .insert (.d (.aB n)) [.int i,x] M=.ok (.d .ba) (M.set n (.lst (ds.take i.toNat++x::ds.drop i.toNat))):=by
 unfold oJ;simp only[hM];rw[aG ⟨hl,h0,h1⟩]
theorem bA(hM:M[n]?=some (.lst ds)):(eu M (.d (.aB n))).isSome=true:=by unfold eu;simp only[hM];rfl
theorem dk(hM:M[n]?=some (.lst ds)):ja .len [.d (.aB n)] M=.ok (.d (.int ds.length)) M:=by unfold ja b_;simp only[hM]
theorem cM(hM:M[n]?=some (.lst ds)):ja .tuple1 [.d (.aB n)] M=.ok (.d (.tup ds)) M:=by unfold ja b_;simp only[hM]
theorem J9(hM:M[n]?=some (.lst ds)):gf .seq [.d (.aB n)] M=.ok (.at n) M:=by
 unfold gf b_;simp only[hM];rfl
theorem UO(hM:M[n]?=some (.lst ds)):cO M (.at n)=ds.length:=by unfold cO;simp only[hM]
end
theorem ae{n:Nat}(h:n<=1000):n<=sizeLine:=fh h (by decide)
theorem aP{n:Nat}(h:n<=1000):n<sizeLine:=Nat.lt_of_le_of_lt h (by decide)
theorem bJ{α:Type}{l:List α}{k:Nat}{x:α}(h:l[k]?=some x):l.take (k+1)=l.take k++[x]:=by
 rw[List.take_add_one,h];rfl
theorem jC{x:Str}(h:PyData.strOk x=true):SeqAt.shaped (.str x)=true:=by
 unfold SeqAt.shaped;rw[PyData.canLay0.eq_4,h,PyData.depth.eq_7];rfl
theorem ou{x y:Str}:PyData.eqv (.str x) (.str y)=(x==y):=PyData.eqv.eq_6 x y
theorem rV{M:af}{x:Str}:jZ M (.d (.str x))=some (.str x):=by show eG M 30 (.str x)=_;unfold eG;rfl
theorem lE{M:af}{x y:Str}(hx:PyData.strOk x=true)(hy:PyData.strOk y=true):bD .eq (.d (.str x)) (.d (.str y)) M=.ok (x==y) M:=by
 unfold bD;simp only[rV,jC hx,jC hy,nc,fO,ou]
theorem F4{M:af}{x y:Str}(hx:PyData.strOk x=true)(hy:PyData.strOk y=true):bD .ne (.d (.str x)) (.d (.str y)) M=.ok (!(x==y)) M:=by
 unfold bD;simp only[rV,jC hx,jC hy,nc,fO,ou]
section
variable {G:bo} {b:List S} {tg:List Nat} {ρ:En} {M:af} {nx:En->af->Prop} {rt:W->af->Prop} {bk ct:En->af->Prop}
theorem F5{lo:Int}{n:Nat}(I:Nat->En->af->Prop)(h0:I 0 ρ M)(hs:∀i ρ M,i<n->I i ρ M->C0 (bR tg (.int (lo+i)) ρ) λρ=>dy G b ρ M (I (i+1)) rt nx (I (i+1)))(he:∀ρ M,I n ρ M->nx ρ M):eI (cX (λρ M=>cm G b ρ M) (.iZ lo n) tg n 0 ρ M) nx rt bk ct:=by
 have bS:((List.range n).map λi=>D.int (lo+(i:Nat))).length=n:=by simp
 refine om (ds:=(List.range n).map λi=>D.int (lo+(i:Nat))) I (λi ρ M _ hi=>?_) (λi ρ M d h e=>?_) (λρ M h=>he ρ M (by rw[bS]at h;exact h)) n 0 ρ M h0 (by rw[bS];omega)
 ·rw[bS]at hi;show some (if i<n then some (D.int (lo+i)) else none)=_;by_cases q:i<n
  ·rw[aG q];simp[q]
  ·rw[aT q,Bc (by rw[bS];omega)]
 ·have hi:i<n:=by have:=(dq.mp e).1;rw[bS]at this;exact this
  have:d=.int (lo+i):=by rw[ff,List.getElem?_range hi]at e;exact(cH e).symm
  subst this;have q:=hs i ρ M hi h
  cases e2:bR tg (.int (lo+i)) ρ with
  | none=>rw[e2]at q;exact q.elim
  | some d4=>rw[e2]at q;exact⟨d4,rfl,by rw[v7];exact q⟩
theorem iR{ds:List D}(I:Nat->En->af->Prop)(h0:I 0 ρ M)(hs:∀i ρ M d,ds[i]?=some d->I i ρ M->C0 (bR tg d ρ) λρ=>dy G b ρ M (I (i+1)) rt nx (I (i+1)))(he:∀ρ M,I ds.length ρ M->nx ρ M):eI (cX (λρ M=>cm G b ρ M) (.items ds) tg ds.length 0 ρ M) nx rt bk ct :=
 om (ds:=ds) I (λi ρ M _ _=>rfl) (λi ρ M d h e=>by
  have q:=hs i ρ M d e h
  cases e2:bR tg d ρ with
  | none=>rw[e2]at q;exact q.elim
  | some d4=>rw[e2]at q;exact⟨d4,rfl,by rw[v7];exact q⟩) he ds.length 0 ρ M h0 ∅
end
theorem lF:∀(tg:List Nat)(ds:List D)(ρ:En)(i:Nat)(o:Option D),i∉tg->de tg ds (ρ.set i o)=(de tg ds ρ).map (·.set i o)
 | [],[],_,_,_,_=>rfl
 | [],_::_,_,_,_,_=>rfl
 | _::_,[],_,_,_,_=>rfl
 | j::tg,d::ds,ρ,i,o,h=>by
  have h1:i≠j:=λz=>h (by rw[z];exact cG);show de tg ds ((ρ.set i o).set j (some d))=_;rw[List.set_comm _ _ h1,lF tg ds _ i o λz=>h (cZ _ z)];rfl
theorem fF:∀(tg:List Nat)(ds es:List D)(ρ d4:En),tg.Nodup->de tg ds ρ=some d4->de tg es d4=de tg es ρ
 | [],[],[],_,_,_,e=>by cases e;rfl
 | [],[],_::_,_,_,_,e=>by cases e;rfl
 | [],_::_,_,_,_,_,e=>by cases e
 | _::_,[],_,_,_,_,e=>by cases e
 | j::tg,d::ds,[],ρ,d4,n,e=>rfl
 | j::tg,d::ds,f::es,ρ,d4,n,e=>by
  have n1:=wC.mp n;have e:de tg ds (ρ.set j (some d))=some d4:=e;show de tg es (d4.set j (some f))=de tg es (ρ.set j (some f));have e2:=lF tg ds (ρ.set j (some d)) j (some f) n1.1;rw[e,List.set_set]at e2;exact fF tg ds es _ _ n1.2 e2
theorem qi{tg:List Nat}{d e:D}{ρ d4:En}(n:tg.Nodup)(h:bR tg d ρ=some d4):bR tg e d4=bR tg e ρ:=by
 match tg,n,h with
 | [i],_,h =>
  have h:some (ρ.set i (some d))=some d4:=h;cases h;show some ((ρ.set i (some d)).set i (some e))=some (ρ.set i (some e));rw[List.set_set]
 | [],_,h =>
  cases d<;>first | cases h | skip
  cases e<;>first | rfl | skip
  exact fF [] _ _ _ _ List.nodup_nil h
 | i::j::tg,n,h =>
  cases d<;>first | cases h | skip
  cases e<;>first | rfl | skip
  exact fF (i::j::tg) _ _ _ _ n h
end
section
variable {ee:yR->af->Prop} {G:bo} {cond:Option dU} {elt:C} {tg:List Nat} {ρ:En} {M:af} {P:W->af->Prop}
theorem iT{it:It}{ds:List D}(I:Nat->af->List D->Prop)(n:tg.Nodup)(pB:∀i M aA,I i M aA->i<=ds.length->itemAt M i it=some ds[i]?)(h0:I 0 M [])(hs:∀i M aA d,ds[i]?=some d->I i M aA->aA.length<sizeLine/\C0 (bR tg d ρ) λτ=>lD G cond τ M λr M=>if r=true then wE G elt τ M λw M=>cY (own w M) λx M=>I (i+1) M (aA++[x]) else I (i+1) M aA)(he:∀M aA,I ds.length M aA->P (.lv aA) M){k:Nat}(hk:k=ds.length):@aQ ⟨ee⟩ _ (bq (λτ M=>bL G cond τ M) (λτ M=>(ev G elt τ M).bind own) it tg k 0 ρ M []) P:=by
 subst hk;refine oo (er:=⟨ee⟩) (ds:=ds) (λi τ M aA=>I i M aA/\(τ=ρ\/∃d,bR tg d ρ=some τ)) (λi τ M aA h hi=>pB i M aA h.1 hi) (λi τ M aA d h e=>?_) (λτ M aA h=>he M aA h.1) ds.length 0 ρ M [] ⟨h0,.inl rfl⟩ ∅;obtain⟨q1,q2⟩:=hs i M aA d e h.1
 have hb:bR tg d τ=bR tg d ρ:=by
  rcases h.2 with z | ⟨d',z⟩
  ·rw[z]
  ·exact qi n z
 refine⟨q1,?_⟩
 cases e2:bR tg d ρ with
 | none=>rw[e2]at q2;exact q2.elim
 | some F6 =>
  rw[e2]at q2;refine⟨F6,by rw[hb,e2],?_⟩;have q2:lD G cond F6 M (λr M=>if r=true then wE G elt F6 M λw M=>cY (own w M) λx M=>I (i+1) M (aA++[x]) else I (i+1) M aA):=q2;rw[<- w_cond]at q2;refine q2.imp λr M1 q3=>?_
  cases r with
  | true =>
   rw[aG rfl]at q3⊢;rw[qh];rw[<- qh]at q3⊢;exact q3.imp λx M2 q4=>⟨q4,.inr ⟨d,e2⟩⟩
  | false =>
   rw[aT (by simp)]at q3⊢;exact⟨q3,.inr ⟨d,e2⟩⟩
theorem zW{it:It}{ds:List D}(f:D->Option D)(n:tg.Nodup)(pB:∀M',Ex M M'->∀i,i<=ds.length->itemAt M' i it=some ds[i]?)(hl:ds.length<=sizeLine)(hs:∀(i:Nat) M' d,ds[i]?=some d->Ex M M'->C0 (bR tg d ρ) λτ=>lD G cond τ M' λr M1=>if r=true then wE G elt τ M1 λw M1=>cY (own w M1) λx M1=>f d=some x/\Ex M M1 else f d=none/\Ex M M1)(he:∀M',Ex M M'->P (.lv (ds.filterMap f)) M'){k:Nat}(hk:k=ds.length):@aQ ⟨ee⟩ _ (bq (λτ M=>bL G cond τ M) (λτ M=>(ev G elt τ M).bind own) it tg k 0 ρ M []) P:=by
 refine iT (ee:=ee) (ds:=ds) (λi M' aA=>Ex M M'/\aA=(ds.take i).filterMap f) n (λi M' aA h hi=>pB M' h.1 i hi) ⟨Ex.refl M,rfl⟩ ?_ (λM' aA h=>?_) hk
 ·rintro i M' aA d hd ⟨h1,rfl⟩;have hi:=(dq.mp hd).1;refine⟨?_,?_⟩
  ·have:=List.length_filterMap_le f (ds.take i);rw[fT]at this;omega
  ·have q:=hs i M' d hd h1
   have e:∀o,f d=o->(ds.take (i+1)).filterMap f=(ds.take i).filterMap f++o.toList:=λo ho=>by
    rw[bJ hd,List.filterMap_append];cases o<;>simp[uG,ho]
   cases e2:bR tg d ρ with
   | none=>rw[e2]at q;exact q.elim
   | some F6 =>
    rw[e2]at q;have q:lD G cond F6 M' (λr M1=>if r=true then wE G elt F6 M1 λw M1=>cY (own w M1) λx M1=>f d=some x/\Ex M M1 else f d=none/\Ex M M1):=q;show lD G cond F6 M' (λr M1=>if r=true then wE G elt F6 M1 λw M1=>cY (own w M1) λx M1=>Ex M M1/\(ds.take i).filterMap f++[x]=(ds.take (i+1)).filterMap f else Ex M M1/\(ds.take i).filterMap f=(ds.take (i+1)).filterMap f);rw[<- w_cond]at q⊢;refine q.imp λr M1 q3=>?_
    cases r with
    | true =>
     rw[aG rfl]at q3⊢;rw[<- qh]at q3⊢;exact q3.imp λx M2 q4=>⟨q4.2,by rw[e _ q4.1];rfl⟩
    | false =>
     rw[aT (by simp)]at q3⊢;exact⟨q3.2,by rw[e _ q3.1];simp⟩
 ·obtain⟨h1,rfl⟩:=h;rw[fy];exact he M' h1
theorem lG{M:af}{ds:List D}:∀M',Ex M M'->∀i,i<=ds.length->itemAt M' i (.items ds)=some ds[i]?:=λ_ _ _ _=>rfl
theorem Qz{M:af}{n:Nat}{ds:List D}(h:M[n]?=some (.lst ds)):∀M',Ex M M'->∀i,i<=ds.length->itemAt M' i (.at n)=some ds[i]?:=λM' e i _=>by unfold itemAt;simp only[Ex.get e h]
theorem J_{M:af}{lo:Int}{n:Nat}:∀M',Ex M M'->∀i,i<=((List.range n).map λi=>D.int (lo+(i:Nat))).length->itemAt M' i (.iZ lo n)=some ((List.range n).map λi=>D.int (lo+(i:Nat)))[i]?:=λM' e i hi=>by
 have bS:((List.range n).map λi=>D.int (lo+(i:Nat))).length=n:=by simp
 rw[bS]at hi;show some (if i<n then some (D.int (lo+i)) else none)=_;by_cases q:i<n
 ·rw[aG q];simp[q]
 ·rw[aT q,Bc (by rw[bS];omega)]
theorem QA{lo:Int}{n:Nat}(I:Nat->af->List D->Prop)(nd:tg.Nodup)(h0:I 0 M [])(hs:∀i M aA,i<n->I i M aA->aA.length<sizeLine/\C0 (bR tg (.int (lo+i)) ρ) λτ=>lD G cond τ M λr M=>if r=true then wE G elt τ M λw M=>cY (own w M) λx M=>I (i+1) M (aA++[x]) else I (i+1) M aA)(he:∀M aA,I n M aA->P (.lv aA) M):@aQ ⟨ee⟩ _ (bq (λτ M=>bL G cond τ M) (λτ M=>(ev G elt τ M).bind own) (.iZ lo n) tg (cO M (.iZ lo n)) 0 ρ M []) P:=by
 have bS:((List.range n).map λi=>D.int (lo+(i:Nat))).length=n:=by simp
 refine iT (ee:=ee) (ds:=(List.range n).map λi=>D.int (lo+(i:Nat))) I nd (λi M' aA _ hi=>J_ M' (Ex.refl M') i hi) h0 (λi M' aA d e h=>?_) (λM' aA h=>he M' aA (by rw[bS]at h;exact h)) (by rw[bS];rfl);have hi:i<n:=by have:=(dq.mp e).1;rw[bS]at this;exact this
 have:d=.int (lo+i):=by rw[ff,List.getElem?_range hi]at e;exact(cH e).symm
 subst this;exact hs i M' aA hi h
end
end Ev
end
local macro_rules
  | `(tactic| nofun) => `(tactic| conv => whnf)
section
namespace Ev
open L2
open PySem PySem.Spec PyProof.Rows
section
variable {G:bo} {b:List S} {tg:List Nat} {ρ:En} {M:af} {nx:En->af->Prop} {rt:W->af->Prop} {bk ct:En->af->Prop}
theorem lH{lo:Int}{n:Nat}(I:Nat->En->af->Prop)(h0:I 0 ρ M)(hs:∀(J:Nat->En->af->Prop)(nx:En->af->Prop)(rt:W->af->Prop),(∀i ρ M,I i ρ M->J i ρ M)->∀i ρ M,i<n->I i ρ M->C0 (bR tg (.int (lo+i)) ρ) λρ=>dy G b ρ M (J (i+1)) rt nx (J (i+1)))(he:∀ρ M,I n ρ M->nx ρ M):eI (cX (λρ M=>cm G b ρ M) (.iZ lo n) tg n 0 ρ M) nx rt bk ct :=
 F5 I h0 (hs I nx rt λ_ _ _ h=>h) he
theorem gu{ds:List D}(I:Nat->En->af->Prop)(h0:I 0 ρ M)(hs:∀(J:Nat->En->af->Prop)(nx:En->af->Prop)(rt:W->af->Prop),(∀i ρ M,I i ρ M->J i ρ M)->∀i ρ M d,ds[i]?=some d->I i ρ M->C0 (bR tg d ρ) λρ=>dy G b ρ M (J (i+1)) rt nx (J (i+1)))(he:∀ρ M,I ds.length ρ M->nx ρ M):eI (cX (λρ M=>cm G b ρ M) (.items ds) tg ds.length 0 ρ M) nx rt bk ct :=
 iR I h0 (hs I nx rt λ_ _ _ h=>h) he
end
end Ev
end
section
namespace Ev
open PySem PyProof.Rows
abbrev ch(c:Nat):Str:=⟨#[c]⟩
theorem iU{a b:Str}(h:a.cps.toList=b.cps.toList):a=b:=PySem.Str.ext' (Array.ext' h)
theorem fG(a b:Str):(a++b).cps.toList=a.cps.toList++b.cps.toList:=cps_toList_append a b
theorem gE{c:Nat}:∀{l:List Nat},0<=cnt c l
 | []=>by rw[cnt_nil];exact Int.le_refl _
 | n::l=>by rw[cnt_cons];have:=gE (c:=c) (l:=l);split<;>omega
theorem qj{c:Nat}:∀{l:List Nat},cnt c l=0->c∉l
 | [],_=>by simp
 | n::l,h=>by
  rw[cnt_cons]at h;have:=gE (c:=c) (l:=l);by_cases e:n=c
  ·rw[aG e]at h;omega
  ·rw[aT e]at h
   exact λm=>by
    rcases bw.mp m with z | z
    ·exact e z.symm
    ·exact qj ∅ z
theorem zX{ps:List Str}{c:Nat}(h:(ps.map λt=>cnt c t.cps.toList).sum=0):∀t∈ps,c∉t.cps.toList:=by
 induction ps with
 | nil=>intro t m;cases m
 | cons p ps ih =>
  rw[d_,wJ]at h;have hp:=gE (c:=c) (l:=p.cps.toList)
  have hs:0<=(ps.map λt=>cnt c t.cps.toList).sum:=by
   clear ih h
   induction ps with
   | nil=>exact Int.le_refl _
   | cons q qs ih=>rw[d_,wJ];have:=gE (c:=c) (l:=q.cps.toList);omega
  intro t m;rcases bw.mp m with z | z
  ·rw[z];exact qj ∅
  ·exact ih ∅ t z
theorem kind_le{x:Str}{c:Nat}(h:c<256):decide (Builtin.Str.strKind x<Builtin.Str.strKind (ch c))=false:=by
 have e:Builtin.Str.strKind (ch c)=1:=by
  show(if (#[c]:Array Nat).all (· < 256) then 1 else _)=1;rw[aG (by simp[h])]
 rw[e];refine c_ ?_;unfold Builtin.Str.strKind;split
 ·omega
 ·split<;>omega
theorem split_len{x:Str}{c:Nat}(h:c<256):((Txt.split x (ch c)).length:Int)=cnt c x.cps.toList+1:=by
 have hc:=count_cnt x c;unfold Txt.count at hc;unfold Txt.split;rw[kind_le h,Bool.or_false];by_cases h1:decide (x.length<(ch c).length)=true
 ·rw[aG h1];have hl:x.length=0:=by have:=of_decide_eq_true h1;have e:(ch c).length=1:=rfl;omega
  have hx:x.cps.toList=[]:=by rw[<- Gu,uH];exact hl
  rw[hx,cnt_nil];rfl
 ·rw[aT h1];by_cases h2:(Builtin.Str.occurrences x (ch c) 0 x.length (x.length+1)).isEmpty=true
  ·rw[aG h2];rw[uO.mp h2]at hc;rw[<- hc];rfl
  ·rw[aT h2,length_partsBetween,<- hc];rfl
theorem zY{x:Str}{c:Nat}(h:c<256):Txt.split x (ch c)≠[]:=λe=>by
 have:=split_len (x:=x) h;rw[e]at this;have:=gE (c:=c) (l:=x.cps.toList);simp at *;omega
theorem rW{x:Str}{c:Nat}(h:c<256):∀t∈Txt.split x (ch c),c∉t.cps.toList:=by
 refine zX ?_;have h1:=cnt_join_sum (ch c) c (Txt.split x (ch c));rw[StrLaws.join_split]at h1;have h2:=split_len (x:=x) h;have h3:cnt c (ch c).cps.toList=1:=by show cnt c [c]=1;rw[cnt_cons,cnt_nil,aG rfl];rfl
 rw[h3]at h1;have:=gE (c:=c) (l:=x.cps.toList);omega
theorem gF{c:Nat}:∀{a b r s:List Nat},c∉a->c∉b->a++c::r=b++c::s->a=b/\r=s
 | [],[],_,_,_,_,e=>⟨rfl,(Bp e).2⟩
 | [],_::_,_,_,_,h,e=>absurd (by rw[(Bp e).1];exact cG) h
 | _::_,[],_,_,h,_,e=>absurd (by rw[<- (Bp e).1];exact cG) h
 | x::a,y::b,r,s,h1,h2,e=>by
  obtain⟨e1,e2⟩:=Bp e;obtain⟨e3,e4⟩:=gF (λz=>h1 (cZ _ z)) (λz=>h2 (cZ _ z)) e2;exact⟨by rw[e1,e3],e4⟩
theorem join_list{c:Nat}{x y:Str}{r:List Str}:(Str.join (ch c) (x::y::r)).cps.toList=x.cps.toList++c::(Str.join (ch c) (y::r)).cps.toList:=by
 rw[join_cons_cons,fG,fG,jM];rfl
theorem qk{c:Nat}:∀{ps ws:List Str},ps≠[]->ws≠[]->(∀t∈ps,c∉t.cps.toList)->(∀t∈ws,c∉t.cps.toList)->Str.join (ch c) ps=Str.join (ch c) ws->ps=ws
 | [],_,h,_,_,_,_=>absurd rfl h
 | _::_,[],_,h,_,_,_=>absurd rfl h
 | [p],[w],_,_,_,_,e=>by rw[join_one,join_one]at e;rw[e]
 | [p],w::w2::ws,_,_,hp,hw,e=>by
  rw[join_one]at e;refine absurd ?_ (hp p cG);rw[e,join_list];exact gW _ cG
 | p::p2::ps,[w],_,_,hp,hw,e=>by
  rw[join_one]at e;refine absurd ?_ (hw w cG);rw[<- e,join_list];exact gW _ cG
 | p::p2::ps,w::w2::ws,_,_,hp,hw,e=>by
  have e:(Str.join (ch c) (p::p2::ps)).cps.toList=(Str.join (ch c) (w::w2::ws)).cps.toList:=jP (λs:Str=>s.cps.toList) e;rw[join_list,join_list]at e;obtain⟨e1,e2⟩:=gF (hp p cG) (hw w cG) e;rw[iU e1,qk (wA _ _) (wA _ _) (λt m=>hp t (cZ _ m)) (λt m=>hw t (cZ _ m)) (iU e2)]
theorem lI{c:Nat}(h:c<256){ws:List Str}(hn:ws≠[])(hf:∀t∈ws,c∉t.cps.toList):Txt.split (Str.join (ch c) ws) (ch c)=ws :=
 qk (zY h) hn (rW h) hf (StrLaws.join_split _ _)
theorem v8{c:Nat}{a b:Str}(ha:c∉a.cps.toList)(hb:c∉b.cps.toList):Txt.partition (a++ch c++b) (ch c)=(a,ch c,b):=by
 have hs:=StrLaws.partition_sum (a++ch c++b) (ch c);have UP:=StrLaws.found_one (a++ch c++b) c;unfold Txt.partition at hs⊢
 cases e:Builtin.Str.occurrences (a++ch c++b) (ch c) 0 (a++ch c++b).length 1 with
 | nil =>
  rw[e]at UP;have:decide (c∈(a++ch c++b).cps.toList)=true:=dE (by rw[fG,fG];exact Bd _ (gW _ cG));rw[this]at UP;cases UP
 | cons i tl =>
  rw[e]at hs;dsimp only at hs⊢;have hs:=jP (λs:Str=>s.cps.toList) hs;simp only[fG,jM]at hs;have BL:∀l:List Nat,(ch c).cps.toList++l=c::l:=λ_=>rfl;rw[BL,BL]at hs
  have two:∀{p q r s:List Nat},c∉r->c∉s->p++c::q=r++c::s->p=r/\q=s:=by
   intro p q r s hr hs e
   have hp:c∉p:=by
    intro hp;obtain⟨p1,p2,rfl⟩:=List.append_of_mem hp
    have:∃p3 p4,p1++c::p2=p3++c::p4/\c∉p3:=by
     clear e hp
     induction p1 with
     | nil=>exact⟨[],p2,rfl,by simp⟩
     | cons z p1 ih =>
      by_cases hz:z=c
      ·exact⟨[],p1++c::p2,by rw[hz];rfl,by simp⟩
      ·obtain⟨p3,p4,e,n⟩:=ih;refine⟨z::p3,p4,by rw[List.cons_append,e];rfl,λm=>?_⟩;rcases bw.mp m with q | q
       ·exact hz q.symm
       ·exact n q
    obtain⟨p3,p4,e2,n⟩:=this;rw[e2,jM,List.cons_append]at e;obtain⟨_,e4⟩:=gF n hr e;exact hs (by rw[<- e4];exact gW _ cG)
   exact gF hp hr e
  obtain⟨h1,h2⟩:=two ha hb hs;rw[iU h1,iU h2]
abbrev gv(n:Nat):Str:=Str.ofString (toString ((n:Nat):Int))
theorem lJ(n:Nat):(gv n).cps.toList=(Nat.toDigits 10 n).map Char.toNat:=PySem.W.KIN.signs_num n
theorem lK{n k:Nat}(hk:k≠45/\(k<48\/57<k)):k∉(gv n).cps.toList:=int_text_free' k hk n
theorem ow:∀d<10,48<=(Nat.digitChar d).toNat/\(Nat.digitChar d).toNat<=57/\((Nat.digitChar d).toNat=48->d=0):=by decide
theorem ox{n:Nat}:∀c∈(gv n).cps.toList,48<=c/\c<=57:=by
 rw[lJ]
 induction n using Nat.strongRecOn with
 | ind n ih =>
  intro c hc;by_cases h:n<10
  ·rw[Nat.toDigits_of_lt_base h]at hc;obtain rfl:=gG.mp hc;exact⟨(ow n h).1,(ow n h).2.1⟩
  ·rw[Nat.toDigits_of_base_le (by decide) ∅,fA]at hc;rcases fN.mp hc with z | z
   ·exact ih (n / 10) ∅ c z
   ·obtain rfl:=gG.mp z;have:=ow (n % 10) ∅;exact⟨this.1,this.2.1⟩
theorem qm:∀n:Nat,∃c r,(gv n).cps.toList=c::r/\(c=48->n=0/\r=[]):=by
 intro n;rw[lJ]
 induction n using Nat.strongRecOn with
 | ind n ih =>
  by_cases h:n<10
  ·rw[Nat.toDigits_of_lt_base h];exact⟨_,[],rfl,λe=>⟨(ow n h).2.2 e,rfl⟩⟩
  ·rw[Nat.toDigits_of_base_le (by decide) ∅,fA];obtain⟨c,r,e,k⟩:=ih (n / 10) ∅;rw[e];exact⟨c,_,rfl,λe=>by have:=(k e).1;omega⟩
theorem eR{n k:Nat}(h:n<10 ^ k)(hk:0<k):(gv n).length<=k:=by
 have:(gv n).length=(Nat.toDigits 10 n).length:=by
  show(gv n).cps.size=_;rw[<- uH,lJ,aR]
 rw[this];exact(Nat.length_toDigits_le_iff (by decide) hk).mpr h
theorem Dg{n:Nat}:1<=(gv n).length:=by
 obtain⟨c,r,e,_⟩:=qm n;show 1<=(gv n).cps.size;rw[<- uH,e];simp
theorem Dh{n:Nat}(h:n<10 ^ 10):intText? (gv n)=some (n:Int):=PySem.W.KIN.num_reads ∅ ∅
end Ev
end
section
namespace Ev
open PySem
noncomputable def uf:List S:=[.ret (.dS [(.bi (.i_ .str) [0]),(.cmp .eq (.bi .len [0]) (.kn 1)),(.chain .le .le (.a8 (.str "a")) 0 (.a8 (.str "z")))])]
def F7:List S:=[.iff (.dJ [(.neg (.val (.chain .le .le (.kn 1) (.bi .len [0]) 1))),(.neg (.val (.bi .all1 [(.comp .seq [0] [1] none (.cmp .O8 1 (.rB "FIGURES" "0123456789")) [none,none])])))]) [.never] [],.iff (.dS [(.val (.cmp .eq (.ks 0 0) (.a8 (.str "0")))),(.val (.cmp .ne 0 (.a8 (.str "0"))))]) [.never] [],.ret (.bi .kK [0])]
noncomputable def F8(qo:Nat):List S:=[.ret (.call qo [0,(.vF "MOST_FIGURES" 9)])]
def F9(lL:Nat):List S:=[.iff (.neg (.val (.call lL [0]))) [.never] [],.ret 0]
noncomputable def QB(tv:List (Addr×Nat)):List S:=[.asg [4] (.pH true 0 1),.ret (.tup [(.dM 2 tv [(.ks 4 0)]),(.dM 3 tv [(.ks 4 2)])])]
def Ka(tv:List (Addr×Nat)):List S:=[.asg [3] (.lst []),.cA [4] .rng2 [(.kn 1),(.bi .len [0])] [.asg [5] (.ite (.val (.cmp .le 4 (.bi .len [1]))) (.sub 1 (.bin .sub 4 (.kn 1))) 2),.iff (.val (.cmp .isN 5 (.a8 .ba))) [.never] [],.iQ false (.me .append 3 [(.dM 5 tv [(.sub 0 4)])])],.iff (.val (.cmp .le (.bi .len [0]) (.bi .len [1]))) [.never] [],.ret 3]
end Ev
end
section
namespace Ev
open L2
open PySem PySem.Spec PyProof.Rows
inductive Wp where
 | num (n:Nat) | qI (x:Str)
def Wp.d:Wp->D
 | .num n=>.int (n:Nat)
 | .qI x=>.str x
def Wp.t:Wp->Str
 | .num n=>gv n
 | .qI x=>x
def Wp.ok:Wp->Prop
 | .num n=>n<10 ^ 10
 | .qI _=>True
theorem rX{n:Nat}(h:n<10 ^ 10):((n:Nat):Int).natAbs.log2<1920:=by
 rw[Int.natAbs_natCast];by_cases z:n=0
 ·subst z;decide
 ·exact(Nat.log2_lt z).mpr (kg h (by decide))
theorem ug{M:af}{w:Wp}(h:w.ok):ja .str1 [.d w.d] M=.ok (.d (.str w.t)) M:=by
 cases w with
 | num n=>exact aG (rX h)
 | qI x=>rfl
theorem strs_map:∀xs:List Str,kQ (xs.map D.str)=some xs
 | []=>rfl
 | x::xs=>by
  show(kQ (xs.map D.str)).map (x::·)=_;rw[strs_map xs];rfl
theorem mU(k:Nat):∀(xs:List Str)(a:Nat),xs.foldl (λa b=>a+b.length+k) a=a+(xs.map (·.length)).sum+xs.length*k
 | [],a=>by simp
 | x::xs,a=>by
  rw[Bn,mU k xs,d_,wJ,eJ,Nat.succ_mul];omega
theorem zZ(cS:Str)(xs:List Str):jI cS xs=Str.join cS xs:=by
 rcases xs with _|⟨x,_|⟨y,xs⟩⟩
 ·exact Gz cS []
 ·rfl
 ·exact Gz cS (x::y::xs)
theorem qp(cS:Str)(xs:List Str):(Str.join cS xs).length<=(xs.map (·.length)).sum+xs.length*cS.length:=by
 rw[<- Gz,size_glued];have:(xs.length-1)*cS.length<=xs.length*cS.length:=Nat.mul_le_mul_right _ (Nat.sub_le _ _);omega
theorem Kb{cS:Str}{xs:List Str}{M:af}(h:(xs.map (·.length)).sum+xs.length*cS.length<=1000):kR cS (.lv (xs.map D.str)) M=.ok (.d (.str (Str.join cS xs))) M:=by
 unfold kR;simp only[strs_map,zZ];refine aG ⟨?_,ae (fh (qp cS xs) h)⟩;unfold Builtin.Str.tooLong;rw[List.foldl_toArray,mU,Nat.zero_add];exact c_ (Nat.not_lt.mpr (ae h))
noncomputable def QC(M:af)(d:D)(ps:List D):Prop:=d=.tup ps\/∃n,d=.aB n/\M[n]?=some (.lst ps)
def UQ(cS:Str):List S:=[.ret (.vG cS (.comp .seq [0] [1] none (.bi .str1 [1]) [none,none]))]
def AW(cS:Str)(F:Fn):Prop:=∀(M:af)(d:D)(ws:List Wp),QC M d (ws.map Wp.d)->(∀w∈ws,w.ok)->ws.length<=1000->((ws.map Wp.t).map (·.length)).sum+ws.length*cS.length<=1000->aQ (F [d] M) λr M'=>r=.d (.str (Str.join cS (ws.map Wp.t)))/\Ex M M'
theorem uh{α:Type}{f:α->D}(l:List α):l.filterMap (λx=>some (f x))=l.map f:=by
 induction l with
 | nil=>rfl
 | cons x l ih=>rw[uG,ih];rfl
noncomputable def UR:D->Option D
 | .int i=>some (.str (Str.ofString (toString i)))
 | .str x=>some (.str x)
 | _=>none
theorem F_(w:Wp):UR w.d=some (.str w.t):=by cases w<;>rfl
theorem ui:∀ws:List Wp,(ws.map Wp.d).filterMap UR=(ws.map Wp.t).map D.str
 | []=>rfl
 | w::ws=>by
  rw[d_,uG,F_];dsimp only;rw[ui ws];rfl
theorem WL{G:bo}{cS:Str}:AW cS (ah G 2 (UQ cS)):=by
  intro M d ws hd bY hl hz;rw[bO];show dy G (UQ cS) [some d,none] M _ _ _ _;unfold UQ
  have main : ∀ (it : It) (k : Nat), k = (ws.map Wp.d).length -> (∀ M', Ex M M' -> ∀ i, i <= (ws.map Wp.d).length -> itemAt M' i it = some (ws.map Wp.d)[i]?) ->
      aQ (bq (λτ M=>bL G none τ M) (λτ M=>(ev G (.bi .str1 [(.eZ 1)]) τ M).bind own) it [1] k 0 [none,none] M []) λx M1=>cY (kR cS x M1) λr M2=>r=.d (.str (Str.join cS (ws.map Wp.t)))/\Ex M M2:=λit k hk pB=>by
    refine zW (ds:=ws.map Wp.d) UR (by decide) pB (ae (by rw[aR];exact hl)) ?_ ?_ hk
    · intro i M' d hd g;obtain⟨w,hw,rfl⟩:=dR.mp (cT hd);nofun;rw[ug (bY w hw)];nofun;exact⟨F_ w,g⟩
    · intro M' g;rw[ui];nofun;rw[Kb (by rw[aR];exact hz)];exact⟨rfl,g⟩
  rcases hd with rfl | ⟨n,rfl,hn⟩
  · nofun;exact main (.items (ws.map Wp.d)) (cO M (.items (ws.map Wp.d))) rfl lG
  · nofun;rw[J9 hn];nofun;exact main (.at n) (cO M (.at n)) (UO hn) (Qz hn)
theorem Kc{lit:Str}{w:Wp}(h:w.ok)(hl:w.t.length+lit.length<=1000):Cc lit (.d w.d)=some w.t:=by
 have e:Lk (.d w.d)=some w.t:=by
  cases w with
  | num n=>exact aG (rX h)
  | qI x=>rfl
 unfold Cc;rw[e];refine aG ?_;rw[Str.empty_append];exact⟨ae ∅,ae (by rw[oR];omega),ae ∅⟩
theorem Kd{lit p:Str}{w:Wp}{M:af}(h:w.ok)(hl:p.length+lit.length+w.t.length<=1000):FF lit p (.d w.d) M=.ok (.d (.str (p++lit++w.t))) M:=by
 have e:Lk (.d w.d)=some w.t:=by
  cases w with
  | num n=>exact aG (rX h)
  | qI x=>rfl
 unfold FF;rw[e];dsimp only;rw[Str.empty_append];exact aG ⟨ae (by rw[oR,oR];omega),ae ∅⟩
def WM(lit:Str):List S:=[.ret (.wj lit 0 1)]
def US(lit:Str)(F:Fn):Prop:=∀(M:af)(a b:Wp),a.ok->b.ok->a.t.length+lit.length+b.t.length<=1000->aQ (F [a.d,b.d] M) λr M'=>r=.d (.str (a.t++lit++b.t))/\M'=M
theorem Y_{G:bo}{lit:Str}:US lit (ah G 2 (WM lit)):=by
 intro M a b ha hb hl;rw[bO];show dy G (WM lit) [some a.d,some b.d] M _ _ _ _;nofun;rw[Kc ha ∅];nofun;rw[Kd hb hl];exact⟨rfl,rfl⟩
def gw(x:Str):Prop:=∀c∈x.cps.toList,c<128
theorem gw.so{x:Str}(h:gw x):PyData.strOk x=true:=by
 unfold PyData.strOk;rw[<- Array.all_toList,jN];exact λc hc=>dE (kg (h c hc) (by decide))
theorem gw.all{x:Str}(h:gw x):(x.cps.all λc=>decide (c<128))=true:=by
 rw[<- Array.all_toList,jN];exact λc hc=>dE (h c hc)
theorem gw.app{a b:Str}(ha:gw a)(hb:gw b):gw (a++b):=λc hc=>by
 rw[fG]at hc;exact(fN.mp hc).elim (ha c) (hb c)
theorem gw.one{c:Nat}(h:c<128):gw (ch c):=λd hd=>by
 have hd:d∈[c]:=hd;rw[gG.mp hd];exact h
theorem gw.join{c:Nat}(h:c<128):∀{xs:List Str},(∀x∈xs,gw x)->gw (Str.join (ch c) xs)
 | [],_=>λc hc=>by cases hc
 | [x],hx=>hx x cG
 | x::y::r,hx=>by
  rw[join_cons_cons];exact((hx x cG).app (gw.one h)).app (gw.join h λz m=>hx z (cZ _ m))
theorem oy(n:Nat):gw (gv n):=λc hc=>by have:=(ox c hc).2;omega
theorem qq{k:Nat}{a b:Str}(ha:k∉a.cps.toList)(hb:k∉b.cps.toList):k∉(a++b).cps.toList:=by
 rw[fG];exact λm=>(fN.mp m).elim ha hb
theorem iV{k c:Nat}(h:k≠c):k∉(ch c).cps.toList:=λm=>h (gG.mp m)
theorem UT:(" " : Str)=ch 32:=rfl
theorem UU:(":" : Str)=ch 58:=rfl
def AX(F:Fn)(x:Str)(d:D):Prop:=∀M:af,aQ (F [.str x] M) λr M'=>r=.d d/\Ex M M'
theorem qr{M:af}{x:Str}(h:x.length<=sizeLine):ja .len [.d (.str x)] M=.ok (.d (.int x.length)) M:=by
 unfold ja;exact aG h
theorem qt{M:af}{s:Str}(h:(s.cps.all λc=>decide (c<128))=true):gf .seq [.d (.str s)] M=.ok (.items (iB s)) M:=by
 unfold gf;exact aG h
theorem uj{s:Str}{d:D}(h:d∈iB s):∃c,d=.str (ch c)/\c∈s.cps.toList:=by
 unfold iB at h;obtain⟨c,hc,rfl⟩:=dR.mp h;exact⟨c,rfl,hc⟩
theorem qu{s:Str}:(iB s).length=s.length:=by unfold iB;rw[aR];rfl
theorem uk:∀l:List D,(∀d∈l,d=.bl true)->pK l=some (l.map λ_=>true)
 | [],_=>rfl
 | d::l,h=>by
  rw[h d cG];show(pK l).map (true::·)=_;rw[uk l λd m=>h d (cZ _ m)];rfl
theorem oA{M:af}{l:List D}(h:∀d∈l,d=.bl true):ja .all1 [.lv l] M=.ok (.d (.bl true)) M:=by
 unfold ja b_;simp only[uk l h];rw[List.all_map];have e:∀l:List D,l.all (id∘λ_=>true)=true:=λl=>List.rec rfl (λ_ _ i=>i) l;rw[e l]
theorem Ke{c:Nat}(h:48<=c/\c<=57):c∈("0123456789" : Str).cps.toList:=by
 have:("0123456789" : Str).cps.toList=[48,49,50,51,52,53,54,55,56,57]:=⋯;rw[this];simp only[bw,fM,dH];omega
theorem Kg{c:Nat}(h:48<=c/\c<=57):(!(Builtin.Str.occurrences ("0123456789" : Str) (ch c) 0 ("0123456789" : Str).length 1).isEmpty)=true:=by rw[StrLaws.found_one];exact dE (Ke h)
theorem z3{M:af}{x:Str}{c:Nat}{r:List Nat}(h:x.cps.toList=c::r)(hl:x.length<=sizeLine):dN (.d (.str x)) (.d (.int 0)) M=.ok (.d (.str (ch c))) M:=by
 have e:L2.oG x.cps.toList 0=some c:=by rw[h];unfold L2.oG L2.yx;simp
 unfold dN;show(if x.length<=sizeLine then _ else _)=_;rw[aG hl];simp only[e]
theorem QD{a b:Nat}:(ch a==ch b)=(a==b):=by
 by_cases h:a=b
 ·subst h;simp
 ·rw[m7.mpr h];exact m7.mpr λz=>h (by have:=jP (λs:Str=>s.cps.toList) z;simpa using this)
theorem UW:("0" : Str)=ch 48:=rfl
theorem Di{M:af}{n:Nat}(h:n<10 ^ 10):ja .kK [.d (.str (gv n))] M=.ok (.d (.int n)) M:=by
 unfold ja;simp only[Dh h];exact aG (fh (eR (k:=10) h (by decide)) (by decide))
def Kh(F:Fn):Prop:=∀(M:af)(n k:Nat),n<10 ^ k->0<k->k<=10->aQ (F [.str (gv n),.int (k:Nat)] M) λr M'=>r=.d (.int n)/\Ex M M'
theorem UX{G:bo}:Kh (ah G 2 F7):=by
 intro M n k hn hk Lj;have UY:n<10 ^ 10:=fc hn (Nat.pow_le_pow_right (by decide) Lj);have hl:=eR hn hk;have hp:=Dg (n:=n);rw[bO];show dy G F7 [some (.str (gv n)),some (.int (k:Nat))] M _ _ _ _;nofun;rw[qr (ae ∅)];nofun;rw[dE (show(1:Int)<=((gv n).length:Nat) by omega)];nofun;rw[dE (show(((gv n).length:Nat):Int)<=(k:Nat) by omega)];nofun;rw[qt (oy n).all];nofun;refine zW (ds:=iB (gv n)) (λ_=>some (.bl true)) (by decide) lG (ae (by rw[qu];omega)) ?_ ?_ rfl
 ·intro i M' d hd g;obtain⟨c,rfl,hc⟩:=uj (cT hd);nofun;rw[Kg (ox c hc)];exact⟨rfl,g⟩
 ·intro M' g;nofun;rw[oA (λd hd=>by rw[uh,dR]at hd;obtain⟨_,_,rfl⟩:=hd;rfl)];nofun;obtain⟨c,r,e,hz⟩:=qm n;rw[z3 e (ae ∅)];nofun;rw[UW,lE (gw.one (Nat.lt_of_le_of_lt (ox c (by rw[e];exact cG)).2 (show 57<128 by decide))).so (gw.one (by decide)).so,QD]
  have fin:dy G [.ret (.bi .kK [(.eZ 0)])] [some (.str (gv n)),some (.int (k:Nat))] M' (λ_ Ki=>W.d D.ba=.d (.int n)/\Ex M Ki) (λr Ki=>r=.d (.int n)/\Ex M Ki) (λ_ _=>False) (λ_ _=>False):=by
   nofun;rw[Di UY];exact⟨rfl,g⟩
  by_cases q:c=48
  ·subst q;have e2:gv n=ch 48:=iU (by rw[e,(hz rfl).2]);rw[jc];nofun;rw[F4 (oy n).so (gw.one (by decide)).so,e2,jc];rw[e2]at fin;exact fin
  ·rw[m7.mpr q];exact fin
def Dj(k:Nat)(F:Fn):Prop:=∀n,n<10 ^ k->AX F (gv n) (.int n)
theorem UZ{G:bo}{qo:Nat}(hF:Kh (G qo)):Dj 9 (ah G 1 (F8 qo)):=by
 intro n hn M;rw[bO];show dy G (F8 qo) [some (.str (gv n))] M _ _ _ _;nofun;exact hF M n 9 hn (by decide) (by decide)
noncomputable def AY(c:Str):Prop:=c = "a" \/ c = "b" \/ c = "c" \/ c = "z"
def Kj(F:Fn):Prop:=∀(M:af)(c:Str),AY c->aQ (F [.str c] M) λr M'=>r=.d (.bl true)/\Ex M M'
theorem U0{G:bo}:Kj (ah G 1 uf):=by
 intro M c hc;rw[bO];show dy G uf [some (.str c)] M _ _ _ _;rcases hc with rfl | rfl | rfl | rfl
 all_goals
  nofun;exact⟨rfl,Ex.refl M⟩
def Dk(F:Fn):Prop:=∀c,AY c->AX F c (.str c)
theorem U1{G:bo}{lL:Nat}(hS:Kj (G lL)):Dk (ah G 1 (F9 lL)):=by
 intro c hc M;rw[bO];show dy G (F9 lL) [some (.str c)] M _ _ _ _;nofun;refine(hS M c hc).imp ?_;rintro r M' ⟨rfl,g⟩;nofun;exact⟨rfl,g⟩
theorem z9{M:af}{c:Nat}{a b:Str}(ha:c∉a.cps.toList)(hb:c∉b.cps.toList)(Kk:c<256)(hl:a.length+b.length<=900):gK true (.d (.str (a++ch c++b))) (.d (.str (ch c))) M=.ok (.d (.tup [.str a,.str (ch c),.str b])) M:=by
 have hs:(Txt.split (a++ch c++b) (ch c)).length<=sizeLine:=by
  have e:a++ch c++b=Str.join (ch c) [a,b]:=rfl;rw[e,lI Kk (wA _ _) (λt m=>(bw.mp m).elim (λz=>by rw[z];exact ha) λz=>by rw[gG.mp z];exact hb)];exact ae (show 2<=1000 by decide)
 have hz:(a++ch c++b).length<=sizeLine:=ae (by rw[oR,oR];show a.length+1+b.length<=1000;omega);unfold gK;dsimp only;rw[aG ⟨rfl,hz,hs⟩,v8 ha hb]
def z_(G:bo)(tv:List (Addr×Nat))(F:Fn):Prop:=∀(M:af)(c:Nat)(a b:Str)(f1 f2:Addr)(i1 i2:Nat)(d1 d2:D),c∉a.cps.toList->c∉b.cps.toList->c<256->a.length+b.length<=900->tv.lookup f1=some i1->tv.lookup f2=some i2->AX (G i1) a d1->AX (G i2) b d2 ->
 aQ (F [.str (a++ch c++b),.str (ch c),.fn f1,.fn f2] M) λr M'=>r=.d (.tup [d1,d2])/\Ex M M'
theorem rY{ρ:En}{i f:Nat}{a:Addr}{tv:List (Addr×Nat)}(h:ρ[i]?=some (some (.fn a)))(e:tv.lookup a=some f):vI ρ i tv=some f:=by unfold vI;rw[h];exact e
theorem QE{G:bo}{tv:List (Addr×Nat)}:z_ G tv (ah G 5 (QB tv)):=by
 intro M c a b f1 f2 i1 i2 d1 d2 ha hb hc hl t1 t2 h1 h2;have v1:∀ρ:En,ρ[2]?=some (some (.fn f1))->vI ρ 2 tv=some i1:=λρ h=>rY h t1;have v2:∀ρ:En,ρ[3]?=some (some (.fn f2))->vI ρ 3 tv=some i2:=λρ h=>rY h t2;rw[bO];show dy G (QB tv) [some (.str (a++ch c++b)),some (.str (ch c)),some (.fn f1),some (.fn f2),none] M _ _ _ _;nofun;rw[z9 ha hb hc hl];nofun;rw[v1 _ (by rfl)];nofun;refine(h1 M).imp ?_;rintro r M1 ⟨rfl,g1⟩;nofun;rw[v2 _ (by rfl)];nofun;refine(h2 M1).imp ?_;rintro r M2 ⟨rfl,g2⟩;nofun;exact⟨ae (bj rfl),rfl,g1.trans g2⟩
abbrev iN(n:Nat):D:=.int (n:Nat)
theorem Kl{xs:List Str}{k:Nat}(h:∀x∈xs,x.length<=k):(xs.map (·.length)).sum<=xs.length*k:=by
 induction xs with
 | nil=>simp
 | cons x xs ih =>
  rw[d_,wJ,eJ,Nat.succ_mul];have h1:=h x cG;have h2:=ih λy m=>h y (cZ _ m);omega
theorem v9{M:af}{c:Nat}{xs:List Str}(Kk:c<256)(hn:xs≠[])(hf:∀t∈xs,c∉t.cps.toList)(h1:xs.length<=900)(h2:(xs.map (·.length)).sum+xs.length<=1000):gK false (.d (.str (Str.join (ch c) xs))) (.d (.str (ch c))) M=.ok (.lv (xs.map D.str)) M:=by
 have hz:(Str.join (ch c) xs).length<=sizeLine:=ae (fh (qp (ch c) xs) (by show _+xs.length*1<=1000;omega));unfold gK;dsimp only;rw[lI Kk hn hf,aG ⟨rfl,hz,ae ∅⟩]
def Dl:Option Addr->D
 | none=>.ba
 | some a=>.fn a
def RM(rs:List Addr)(fo:Option Addr)(i:Nat):Option Addr:=if i<rs.length then rs[i]? else fo
def U2(G:bo)(tv:List (Addr×Nat))(F:Fn):Prop:=∀(M:af)(aw:Nat)(w0:Str)(ws:List Str)(ds:List D)(rs:List Addr)(fo:Option Addr),M[aw]?=some (.lst ((w0::ws).map D.str))->ws.length=ds.length->rs.length<=ws.length->ws.length<=100 ->
 (∀(i:Nat)(w:Str)(d:D),ws[i]?=some w->ds[i]?=some d->∃a f,RM rs fo i=some a/\tv.lookup a=some f/\AX (G f) w d)->aQ (F [.aB aw,.tg (rs.map D.fn),Dl fo] M) λr M'=>∃v,r=.d (.aB v)/\M'[v]?=some (.lst ds)/\M.length<=v/\Ex M M'
theorem Km{M:af}{ds:List D}{i:Int}{x:D}(hi:0<=i)(h:ds[i.toNat]?=some x):dN (.d (.tg ds)) (.d (.int i)) M=.ok (.d x) M:=by
 unfold dN b_;simp only[zT hi h]
theorem Za{G:bo}{tv:List (Addr×Nat)}:U2 G tv (ah G 6 (Ka tv)):=by
  intro M aw w0 ws ds rs fo hM hl hrs Zb hr;have Ft:((w0::ws).map D.str).length=ws.length+1:=by rw[aR,eJ]
  have haw:=bx hM;rw[bO];show dy G (Ka tv) [some (.aB aw),some (.tg (rs.map D.fn)),some (Dl fo),none,none,none] M _ _ _ _;unfold Ka;nofun;refine⟨ae (bj rfl),?_⟩;nofun;have m1:(M++[.lst []])[aw]?=some (.lst ((w0::ws).map D.str)):=bC hM;have v1:(M++[.lst []])[M.length]?=some (.lst []):=a9;have f1:Ex M (M++[.lst []]):=(Ex.refl M).app;generalize hv:M.length=v at v1;generalize M++[.lst []]=M1 at m1 v1 f1;rw[dk m1];nofun;rw[Ft];refine⟨⟨by decide,by decide,∅,∅⟩,?_⟩;have e1:(((ws.length+1:Nat):Int)-1).toNat=ws.length:=∅;rw[e1];refine F5 (λi ρ M'=>∃o4 o5,ρ=[some (.aB aw),some (.tg (rs.map D.fn)),some (Dl fo),some (.aB v),o4,o5]/\M'[aw]?=some (.lst ((w0::ws).map D.str))/\M'[v]?=some (.lst (ds.take i))/\Ex M M') ⟨none,none,rfl,m1,v1,f1⟩ ?_ ?_
  · rintro i ρ M2 hi ⟨o4,o5,rfl,m2,v2,f2⟩;obtain⟨w,hw⟩:∃w,ws[i]?=some w:=⟨_,fx hi⟩;obtain⟨d,hd⟩:∃d,ds[i]?=some d:=⟨_,fx ∅⟩;obtain⟨a,f,ha,ht,hF⟩:=hr i w d hw hd;have vf:∀ρ:En,ρ[5]?=some (some (.fn a))->vI ρ 5 tv=some f:=λρ h=>rY h ht
    have tail : dy G [.iff (.val (.cmp .isN (.eZ 5) (.a8 .ba))) [.never] [], .iQ false (.me .append (.eZ 3) [(.dM 5 tv [(.sub (.eZ 0) (.eZ 4))])])] [some (.aB aw), some (.tg (rs.map D.fn)), some (Dl fo), some (.aB v), some (.int (1 + (i : Nat))), some (.fn a)] M2
        (λρ M'=>∃o4 o5,ρ=[some (.aB aw),some (.tg (rs.map D.fn)),some (Dl fo),some (.aB v),o4,o5]/\M'[aw]?=some (.lst ((w0::ws).map D.str))/\M'[v]?=some (.lst (ds.take (i+1)))/\Ex M M') (λr M'=>∃v',r=.d (.aB v')/\M'[v']?=some (.lst ds)/\v<=v'/\Ex M M')
        (dy G [.iff (.val (.cmp .le (.bi .len [(.eZ 0)]) (.bi .len [(.eZ 1)]))) [.never] [],.ret (.eZ 3)] · · (λ_ M'=>∃v',W.d D.ba=.d (.aB v')/\M'[v']?=some (.lst ds)/\v<=v'/\Ex M M') (λr M'=>∃v',r=.d (.aB v')/\M'[v']?=some (.lst ds)/\v<=v'/\Ex M M') (λ_ _=>False) (λ_ _=>False))
        (λρ M'=>∃o4 o5,ρ=[some (.aB aw),some (.tg (rs.map D.fn)),some (Dl fo),some (.aB v),o4,o5]/\M'[aw]?=some (.lst ((w0::ws).map D.str))/\M'[v]?=some (.lst (ds.take (i+1)))/\Ex M M'):=by
      nofun;refine⟨bA v2,?_⟩;nofun;rw[vf _ (by rfl)];nofun;rw[dD m2 ∅ (x:=.str w) (by rw[show(1+(i:Nat):Int).toNat=i+1 by omega,d_,List.getElem?_cons_succ,ff,hw];rfl)];nofun;refine(hF M2).imp (er:=dP) ?_;rintro r M3 ⟨rfl,g3⟩;have m3:=Ex.get g3 m2;have v3:=Ex.get g3 v2;nofun;rw[bP v3 (aP (by rw[fT];omega))];nofun;refine⟨_,_,rfl,aJ m3 ∅,?_,(f2.trans g3).set ∅⟩;rw[bb v3,bJ hd]
    nofun;rw[aR];by_cases WN:i<rs.length
    · rw[dE (show(1+(i:Nat):Int)<=((rs.length:Nat):Int) by omega)];have U3:rs[i]?=some a:=by unfold RM at ha;rw[aG WN]at ha;exact ha
      nofun;rw[Km ∅ (x:=.fn a) (by rw[show((1+(i:Nat):Int)-1).toNat=i by omega,ff,U3];rfl)];exact tail
    · rw[c_ (show ¬(1+(i:Nat):Int)<=((rs.length:Nat):Int) by omega)];have U3:fo=some a:=by unfold RM at ha;rw[aT WN]at ha;exact ha
      subst U3;exact tail
  · rintro ρ M2 ⟨o4,o5,rfl,m2,v2,f2⟩;nofun;rw[dk m2,Ft];nofun;rw[aR];rw[c_ (show ¬((ws.length+1:Nat):Int)<=((rs.length:Nat):Int) by omega)];nofun;rw[hl,fy]at v2;exact⟨v,rfl,v2,a7 _,f2⟩
end Ev
end
section
namespace Ev
open PySem
def Kn(lL:Nat):List S:=[.iff (.dJ [(.neg (.val (.bi (.i_ .str) [0]))),(.neg (.val (.chain .le .le (.kn 1) (.bi .len [0]) (.vF "LONGEST_WORD" 8))))]) [.ret (.a8 (.bl false))] [],.ret (.bi .all1 [(.comp .seq [0] [1] none (.call lL [1]) [none,none])])]
def Aa(U4:Nat):List S:=[.ret (.comp .seq [0] [1,2] none (.call U4 [1,2]) [none,none,none])]
noncomputable def Ab(um:Nat)(QF:Nat):List S:=[.asg [1] (.ite (.val (.cmp .isN (.ks 0 4) (.a8 .ba))) (.a8 (.str "-")) (.ks 0 4)),.ret (.call um [(.bin .add (.lst [(.a8 (.str "move")),(.ks 0 0),(.ks 0 1),(.ks 0 2),1]) (.call QF [(.ks 0 3)]))])]
def Ko(um:Nat)(QG:Nat):List S:=[.asg [1] (.lst []),.cA [2,3] .seq [(.ks 0 0)] [.expr (.me .append 1 [(.call um [(.lst [(.a8 (.str "machine")),2])])]),.cA [4] .seq [3] [.expr (.me .append 1 [(.call QG [4])])]],.cA [5,6,7] .seq [(.ks 0 1)] [.expr (.me .append 1 [(.call um [(.lst [(.a8 (.str "road")),5,6,7])])])],.ret 1]
def Ac(QH:Nat):List S:=[.ret (.ite (.val (.cmp .eq 0 (.a8 (.str "own")))) 0 (.call QH [0]))]
def Ad(U5:Nat):List S:=[.iff (.val (.cmp .eq 0 (.a8 (.str "-")))) [.ret (.a8 .ba)] [],.iff (.neg (.val (.call U5 [0]))) [.never] [],.ret 0]
def Ae:List S:=[.iff (.val (.cmp .fj 0 (.tup [(.a8 (.str "row")),(.a8 (.str "heap"))]))) [.never] [],.ret 0]
noncomputable def Ga(Af:Nat)(QI:Addr)(QJ:Addr):List S:=[.ret (.call Af [0,(.a8 (.str ":")),(.vH "number_in" QI),(.vH "sign_in" QJ)])]
noncomputable def Kp:List S:=[.ret (.ite (.val (.cmp .lt 1 (.bi .len [0]))) (.sub (.pH false (.sub 0 1) (.a8 (.str " "))) (.kn 0)) (.a8 .ba))]
def Kq(Kr:Nat)(U6:Nat):List S:=[.iff (.val (.cmp .ne (.call Kr [0,1]) 2)) [.never] [],.iQ true (.call U6 [(.pH false (.sub 0 1) (.a8 (.str " "))),3,4])]
noncomputable def Ks:List S:=[.iff (.val (.cmp .gt (.bi .len [1]) (.kn 0))) [.ret (.tup [(.a8 (.str "road"))])] [],.iff (.val (.cmp .gt (.bi .len [0]) (.kn 0))) [.ret (.tup [(.a8 (.str "machine")),(.a8 (.str "move")),(.a8 (.str "road"))])] [],.ret (.tup [(.a8 (.str "machine"))])]
def Kt(Kr:Nat)(U7:Nat)(U8:Nat)(tt:rA):List S:=[.asg [1] (.lst []),.asg [2] (.lst []),.asg [3] (.lst []),.cA [4] .rng1 [(.bi .len [0])] [.asg [5] (.call Kr [0,4]),.iff (.val (.cmp .fj 5 (.call U7 [1,3]))) [.never] [],.asg [6] (.call U8 [0,4,5,(.sub (.iA "FORM_WORDS" tt 5) (.kn 0)),(.sub (.iA "FORM_WORDS" tt 5) (.kn 1))]),.iff (.val (.cmp .eq 5 (.a8 (.str "machine")))) [.expr (.me .append 1 [(.ks 6 0)]),.expr (.me .append 2 [(.lst [])])] [.iff (.val (.cmp .eq 5 (.a8 (.str "move")))) [.expr (.me .append (.ks 2 (-1)) [(.tup [(.ks 6 0),(.ks 6 1),(.ks 6 2),(.bi .tuple1 [(.pG 6 (some (.kn 4)) none)]),(.ks 6 3)])])] [.expr (.me .append 3 [(.bi .tuple1 [6])])]]],.iff (.val (.cmp .eq (.bi .len [1]) (.kn 0))) [.never] [],.ret (.tup [(.bi .tuple1 [(.comp .zip [1,2] [1,2] none (.tup [1,(.bi .tuple1 [2])]) [none,none,none])]),(.bi .tuple1 [3])])]
def Ah:List S:=[.asg [2] (.lst []),.cA [3,4] .seq [(.ks 0 0)] [.jV 5 (.comp .seq [4] [1] none (.bin .add (.tup [(.bin .add (.ks 1 0) 2),(.ks 1 1),(.bin .add (.ks 1 2) 2)]) (.pG 1 (some (.kn 3)) none)) [none,none,some 1]),.expr (.me .append 2 [(.tup [(.bin .add 3 1),(.bi .tuple1 [5])])])],.ret (.tup [(.bi .tuple1 [2]),(.ks 0 1)])]
def Ai:List S:=[.ret (.comp .seq [0] [1,2] none (.cat (.cat (.bi .str1 [1]) (.a8 (.str ":"))) (.bi .str1 [2])) [none,none,none])]
def Aj(uo:Nat)(QK:Nat):List S:=[.asg [1] (.lst []),.cA [2,3] .seq [(.ks 0 0)] [.expr (.me .append 1 [(.cat (.a8 (.str "machine ")) (.bi .str1 [2]))]),.cA [4,5,6,7,8] .seq [3] [.asg [9] (.ite (.val (.cmp .isN 8 (.a8 .ba))) (.a8 (.str "-")) 8),.expr (.me .append 1 [(.call uo [(.bin .add (.lst [(.a8 (.str "move")),4,5,6,9]) (.call QK [7]))])])]],.cA [10,11,12] .seq [(.ks 0 1)] [.expr (.me .append 1 [(.call uo [(.lst [(.a8 (.str "road")),10,11,12])])])],.ret 1]
noncomputable def gU(QL:Nat):List S:=[.iff (.val (.bi (.i_ .tuple) [1])) [.iff (.dJ [(.neg (.val (.bi (.i_ .tuple) [0]))),(.val (.cmp .ne (.bi .len [0]) (.bi .len [1])))]) [.ret (.a8 (.bl false))] [],.ret (.bi .all1 [(.comp .zip [0,1] [1,2] none (.call QL [1,2]) [none,none,none])])] [],.iff (.val (.cmp .isN 1 (.a8 .ba))) [.ret (.cmp .isN 0 (.a8 .ba))] [],.iff (.val (.bi (.i_ .str) [1])) [.ret (.dS [(.bi (.i_ .str) [0]),(.cmp .eq 0 1)])] [],.ret (.dS [(.bi (.i_ .int) [0]),(.neg (.bi (.i_ .bool) [0])),(.cmp .eq 0 1)])]
end Ev
end
section
namespace Ev
open L2
open PySem PySem.Spec PyProof.Rows
section
variable {M:af} {n:Nat} {ds:List D} {i:Int} {x:D}
theorem rZ{P:D->Prop}{k:Nat}(h:∀d∈ds,P d)(h0:0<=i)(h1:i<k)(hk:k=ds.length):∃d,ds[i.toNat]?=some d/\P d:=by
 have hl:i.toNat<ds.length:=∅;exact⟨ds[i.toNat],fx hl,h _ (List.getElem_mem hl)⟩
end
noncomputable def lM(m:Int)(d:D):Prop:=∃a b k,d=.tup [.int a,.int b,.str k]/\0<=a/\a<m/\0<=b/\b<m/\a≠b/\(k = "row" \/ k = "heap")
def RN(d:D):Prop:=∃i:Int,d=.int i/\0<=i/\i<100
noncomputable def Ak(P:Int->Prop)(d:D):Prop:=∃r c,d=.tup [.int r,.str c]/\P r/\(c = "a" \/ c = "b" \/ c = "c" \/ c = "z")
def Al(d:D):Prop:=d=.ba\/∃x:Str,d=.str x/\(x = "x" \/ x = "yes" \/ x = "abcdefgh" \/ x = "own" \/ x = "a" \/ x = "ab" \/ x = "word" \/ x = "xx" \/ x = "no" \/ x = "w")
def oB(d:D):Prop:=∃x:Str,d=.str x/\(x = "own" \/ x = "a" \/ x = "b" \/ x = "z")
def qv(P:Int->Prop)(d:D):Prop:=∃s c a sends wd,d=.tup [s,c,a,.tup sends,wd]/\RN s/\oB c/\RN a/\sends.length<=3/\(∀x∈sends,Ak P x)/\Al wd
noncomputable def fH(bF:List D)(m:Nat)(r:Int):Prop:=0<=r/\∃b k,bF[r.toNat]?=some (.tup [.int m,b,k])
def Gb(bF:List D)(m:Nat)(d:D):Prop:=∃st moves,d=.tup [st,.tup moves]/\RN st/\moves.length<=28/\∀y∈moves,qv (fH bF m) y
def Gd(d:D):Prop:=∃rules bF,d=.tup [.tup rules,.tup bF]/\1<=rules.length/\rules.length<=4/\bF.length<=8/\(∀x∈bF,lM rules.length x)/\∀m x,rules[m]?=some x->Gb bF m x
theorem Am{m:Int}{bF:List D}{i:Nat}(h:∀x∈bF,lM m x)(hi:i<bF.length):∃a b k,bF[i]?=some (.tup [.int a,.int b,.str k]):=by
 obtain⟨a,b,k,e,_⟩:=h bF[i] (List.getElem_mem hi);exact⟨a,b,k,by rw[fx hi,e]⟩
theorem Ku(a b:Str):PyData.strOk (a++b)=(PyData.strOk a&&PyData.strOk b):=by
 show(a.cps++b.cps).all _=_;rw[Array.all_append];rfl
noncomputable def Tx(b:Nat)(x:Str):Prop:=x.length<=b/\PyData.strOk x=true
theorem Tx.app{a b:Nat}{x y:Str}(h:Tx a x)(k:Tx b y):Tx (a+b) (x++y):=⟨by rw[strLen_append];have:=h.1;have:=k.1;omega,by rw[Ku,h.2,k.2];rfl⟩
theorem Tx.mono{a b:Nat}{x:Str}(h:Tx a x)(k:a<=b):Tx b x:=⟨fh h.1 k,h.2⟩
theorem uq{b:Nat}:∀{l:List Str}{n a:Nat}{x:Str},Tx a x->(∀x∈l,Tx b x)->Tx (a+l.length*(b+2)) (textFrom n x l)
 | [],_,_,_,h,_=>by rw[textFrom.eq_1];exact h.mono (by simp)
 | t::ts,n,a,x,h,k=>by
  rw[textFrom.eq_2];have h2:Tx 2 (Str.ofString (if n>0 then ", " else "")):=by split<;>exact⟨⋯,⋯⟩
  refine(uq (l:=ts) (n:=n+1) ((h.app h2).app (k t (cG ..))) λz hz=>k z (cZ _ hz)).mono ?_;rw[eJ,Nat.add_mul];omega
theorem Dm{b:Nat}{l:List Str}(h:∀x∈l,Tx b x):Tx (l.length*(b+2)+2) (listText l):=by
 unfold listText;have h1:Tx 1 (Str.ofString "["):=⟨⋯,⋯⟩;have h2:Tx 1 (Str.ofString "]"):=⟨⋯,⋯⟩;exact((uq h1 h).app h2).mono ∅
def wm(b h:Nat)(p:PyData):Prop:=p.canLay0=true/\p.showable=true/\p.depth<=h/\Tx b p.shown
def Sm(b h:Nat)(d:D):Prop:=∃p:PyData,(∀M n,h<=n->eG M n d=some p)/\wm b h p
theorem wm.all{b h:Nat}:∀{ps:List PyData},(∀p∈ps,wm b h p)->PyData.canLayAll0 ps=true/\PyData.showableAll ps=true/\PyData.depthAll ps<=h/\(∀x∈PyData.shownAll ps,Tx b x)/\(PyData.shownAll ps).length=ps.length
 | [],_=>⟨PyData.canLayAll0.eq_1,PyData.showableAll.eq_1,by rw[PyData.depthAll.eq_1];omega,by rw[PyData.shownAll.eq_1];intro x h;(cases h),by rw[PyData.shownAll.eq_1];rfl⟩
 | p::ps,q=>by
  obtain⟨a1,a2,a3,a4,a5⟩:=wm.all (ps:=ps) λp hp=>q p (cZ _ hp);obtain⟨b1,b2,b3,b4⟩:=q p (cG ..);refine⟨by rw[PyData.canLayAll0.eq_2,a1,b1];rfl,by rw[PyData.showableAll.eq_2,a2,b2];rfl,by rw[PyData.depthAll.eq_2];omega,?_,by rw[PyData.shownAll.eq_2,eJ,a5,eJ]⟩;rw[PyData.shownAll.eq_2];intro x hx;rcases bw.mp hx with rfl | hx
  ·exact b4
  ·exact a4 x hx
theorem wm.list{b h k:Nat}{ps:List PyData}(q:∀p∈ps,wm b h p)(hk:ps.length<=k):wm (k*(b+2)+2) (h+1) (.list ps):=by
 obtain⟨a1,a2,a3,a4,a5⟩:=wm.all q;refine⟨(PyData.canLay0.eq_5 ps).trans a1,(PyData.showable.eq_5 ps).trans a2,by rw[PyData.depth.eq_1];omega,?_⟩;rw[PyData.shown.eq_5];refine(Dm a4).mono ?_;rw[a5];exact Nat.add_le_add_right (Nat.mul_le_mul_right _ hk) _
theorem Sm.ds{b h:Nat}:∀{ds:List D},(∀d∈ds,Sm b h d)->∃ps,(∀M n,h<=n->cw M n ds=some ps)/\(∀p∈ps,wm b h p)/\ps.length=ds.length
 | [],_=>⟨[],λM n _=>by unfold cw;rfl,(by intro p h;cases h),rfl⟩
 | d::ds,q=>by
  obtain⟨ps,e,a,l⟩:=Sm.ds (ds:=ds) λd hd=>q d (cZ _ hd);obtain⟨p,ep,ap⟩:=q d (cG ..);refine⟨p::ps,λM n hn=>by unfold cw;rw[ep M n hn,e M n hn],?_,by simp[l]⟩;intro x hx;rcases bw.mp hx with rfl | hx
  ·exact ap
  ·exact a x hx
theorem wm.shaped{b h:Nat}{p:PyData}(q:wm b h p)(hh:h<=40):SeqAt.shaped p=true:=by
 unfold SeqAt.shaped;rw[q.1,Bool.true_and];exact dE (by have:=q.2.2.1;omega)
theorem Kv{M:af}{n:Nat}{ds:List D}{b h:Nat}(hM:M[n]?=some (.lst ds))(q:∀d∈ds,Sm b h d)(hl:ds.length<=1000)(hh:h<=20):bD .ne (.d (.aB n)) (.lv []) M=.ok (!ds.isEmpty) M:=by
 obtain⟨ps,e,a,l⟩:=Sm.ds q
 have h1:jZ M (.d (.aB n))=some (.list ps):=by
  show eG M 30 (.aB n)=_;unfold eG
  try simp only[hM]
  rw[e M 29 ∅];rfl
 have h2:jZ M (.lv [])=some (.list []):=by show(cw M 30 []).map _=_;unfold cw;rfl
 have h3:=(wm.list (k:=1000) a ∅).shaped ∅;have h4:SeqAt.shaped (.list [])=true:=⋯;unfold bD
 try simp only[h1,h2,h3,h4,nc,fO,PyData.eqv.eq_7]
 cases ds with
 | nil =>
  have:ps=[]:=Go l;subst this;rw[PyData.eqvAll.eq_1];rfl
 | cons d ds =>
  cases ps with
  | nil=>simp at l
  | cons p ps =>
   have:PyData.eqvAll (p::ps) []=false:=by simp only[PyData.eqvAll]
   rw[this];rfl
section
variable {M:af} {n:Nat} {ds:List D} {i:Int} {x:D}
abbrev iD(ks:List Int):List D:=ks.map D.int
theorem ur{k:Nat}:∀(ks:List Int),cw M k (iD ks)=some (ks.map PyData.int)
 | []=>by show cw M k []=_;unfold cw;rfl
 | i::ks=>by
  show cw M k (.int i::iD ks)=_;unfold cw;have:eG M k (.int i)=some (.int i):=by cases k<;>(unfold eG;rfl)
  rw[this,ur ks];rfl
end
theorem QM{ds:List D}(h:ds.length<=63):cutD ds none (some 63)=ds:=by
 unfold cutD;have e1:HT.cF ds.length 0 none=0:=rfl
 have e2:HT.cF ds.length ds.length (some 63)=ds.length:=by
  show(if (63:Int)<0 then ((63:Int)+(ds.length:Int)).toNat else min (63:Int).toNat ds.length)=ds.length;rw[aT (by decide)];have:(63:Int).toNat=63:=rfl;omega
 rw[e1,e2];simp
end Ev
end
section
namespace Ev
open PySem
noncomputable def r6:List S:=[.ret (.wg ["cells","cell","drawn"] [(.bi .list1 [(.pG 0 none (some (.kn 63)))]),(.kn 0),(.kn 0)])]
noncomputable def r8:List S:=[.put 0 (.a8 (.str "drawn")) (.bin .mul (.kn 100) 1),.put 0 (.a8 (.str "cell")) (.kn 0),.iff (.val (.cmp .ne (.sub 0 (.a8 (.str "cells"))) (.lst []))) [.put 0 (.a8 (.str "cell")) (.sub (.sub 0 (.a8 (.str "cells"))) (.bin .mod 1 (.bi .len [(.sub 0 (.a8 (.str "cells")))])))] []]
noncomputable def r_:List S:=[.put 0 (.a8 (.str "drawn")) (.bin .add (.sub 0 (.a8 (.str "drawn"))) (.kn 1)),.asg [2] (.sub 0 (.a8 (.str "cell"))),.iff (.val (.cmp .ge 2 (.bin .pow (.kn 10) (.kn 18)))) [.put 0 (.a8 (.str "cell")) (.bin .fdiv 2 1),.ret (.bin .mod 2 1)] [],.asg [3] (.sub 0 (.a8 (.str "drawn"))),.asg [4] (.bin .mod (.bin .mul (.bin .add (.bin .mod 2 (.kn 2147483629)) (.kn 1)) (.bin .add (.bin .mul (.bin .mul (.kn 31) 3) 3) (.kn 7919))) (.kn 2147483647)),.ret (.bin .mod (.bin .mod (.bin .mul (.bin .add 4 3) (.kn 48271)) (.kn 2147483629)) 1)]
noncomputable def se(aL:Nat):List S:=[.jV 6 (.comp .rng1 [(.bi .len [4])] [1] (some (.val (.cmp .eq (.sub (.sub 3 1) (.kn 0)) 2))) 1 [none,none,some 1,some 4]),.asg [7] (.lst []),.iff (.val (.cmp .ne 6 (.lst []))) [.cA [5] .rng1 [(.sub (.lst [(.kn 0),(.kn 1),(.kn 1),(.kn 2),(.kn 3)]) (.call aL [0,(.kn 5)]))] [.expr (.me .append 7 [(.tup [(.sub 6 (.call aL [0,(.bi .len [6])])),(.sub (.a8 (.str "abz")) (.call aL [0,(.kn 3)]))])])]] [],.asg [8] (.sub (.lst [(.a8 .ba),(.a8 .ba),(.a8 (.str "x")),(.a8 (.str "xx")),(.a8 (.str "yes")),(.a8 (.str "no"))]) (.call aL [0,(.kn 6)])),.ret (.tup [2,3,(.call aL [0,(.kn 3)]),(.bi .tuple1 [7]),8])]
def sg(dz:Nat)(aL:Nat)(dZ:Nat):List S:=[.expr (.call dz [0,(.kn 0)]),.asg [1] (.sub (.lst [(.kn 1),(.kn 2),(.kn 2),(.kn 3),(.kn 3),(.kn 4)]) (.call aL [0,(.kn 6)])),.asg [2] (.lst []),.iff (.val (.cmp .gt 1 (.kn 1))) [.cA [3] .rng1 [(.bin .sub (.sub (.lst [(.kn 1),(.kn 2),(.kn 3),(.kn 4),(.kn 5),(.kn 8)]) (.call aL [0,(.kn 6)])) (.bi .kK [(.cmp .eq (.call aL [0,(.kn 8)]) (.kn 0))]))] [.asg [4] (.call aL [0,1]),.asg [5] (.bin .mod (.bin .add (.bin .add 4 (.kn 1)) (.call aL [0,(.bin .sub 1 (.kn 1))])) 1),.expr (.me .append 2 [(.tup [4,5,(.sub (.lst [(.a8 (.str "row")),(.a8 (.str "heap"))]) (.call aL [0,(.kn 2)]))])])]] [],.asg [6] (.lst []),.cA [7] .rng1 [1] [.expr (.call dz [0,(.bin .add (.kn 1) 7)]),.asg [8] (.lst []),.cA [9] .rng1 [(.kn 3)] [.cA [10] .seq [(.lst [(.a8 (.str "own")),(.a8 (.str "a")),(.a8 (.str "b"))])] [.iff (.val (.cmp .gt (.call aL [0,(.kn 4)]) (.kn 0))) [.asg [11] (.call dZ [0,7,9,10,2]),.expr (.me .insert 8 [(.call aL [0,(.bin .add (.bi .len [8]) (.kn 1))]),11])] []]],.expr (.me .append 6 [(.tup [(.call aL [0,(.kn 3)]),(.bi .tuple1 [8])])])],.ret (.tup [(.bi .tuple1 [6]),(.bi .tuple1 [2])])]
end Ev
end
section
namespace Ev
open L2
open PySem PySem.Spec PyProof.Rows
noncomputable def lN(c:Nat)(l t:Int):List (bZ×D):=[(Sum.inr ("cells" : Str),.aB c),(Sum.inr ("cell" : Str),.int l),(Sum.inr ("drawn" : Str),.int t)]
def FG(M:af)(w:Nat)(T:Int):Prop:=∃(c:Nat) (l t:Int) (ns:List Int),M[w]?=some (.dK (lN c l t))/\M[c]?=some (.lst (iD ns))/\c<w/\ns.length<=63/\0<=t/\t<=T
theorem FG.lt{M:af}{w:Nat}{T:Int}(h:FG M w T):w<M.length:=by obtain⟨c,l,t,ns,h,_⟩:=h;exact bx h
theorem FG.app{M X:af}{w:Nat}{T:Int}(h:FG M w T):FG (M++X) w T:=by obtain⟨c,l,t,ns,h,k,q⟩:=h;exact⟨c,l,t,ns,bC h,bC k,q⟩
theorem FG.mono{M:af}{w:Nat}{T T2:Int}(h:FG M w T)(k:T<=T2):FG M w T2:=by obtain⟨c,l,t,ns,h1,h2,h3,h4,h5,h6⟩:=h;exact⟨c,l,t,ns,h1,h2,h3,h4,h5,Int.le_trans h6 k⟩
theorem FG.ex{M M1:af}{w:Nat}{T:Int}(h:FG M w T)(f:Ex M M1):FG M1 w T:=by obtain⟨c,l,t,ns,h1,h2,h3,q⟩:=h;exact⟨c,l,t,ns,Ex.get f h1,Ex.get f h2,h3,q⟩
theorem FG.set{M:af}{w v:Nat}{T:Int}{o:MO}(h:FG M w T)(k:w<v):FG (M.set v o) w T:=by obtain⟨c,l,t,ns,h1,h2,h3,q⟩:=h;exact⟨c,l,t,ns,aJ h1 ∅,aJ h2 ∅,h3,q⟩
section
variable {M:af} {w c:Nat} {l t:Int}
theorem U9(h:M[w]?=some (.dK (lN c l t))):dN (.d (.aB w)) (.d (.str "cells")) M=.ok (.d (.aB c)) M:=by unfold dN;simp only[h];rfl
theorem Zc(h:M[w]?=some (.dK (lN c l t))):dN (.d (.aB w)) (.d (.str "cell")) M=.ok (.d (.int l)) M:=by unfold dN;simp only[h];rfl
theorem WO(h:M[w]?=some (.dK (lN c l t))):dN (.d (.aB w)) (.d (.str "drawn")) M=.ok (.d (.int t)) M:=by unfold dN;simp only[h];rfl
theorem U_(h:M[w]?=some (.dK (lN c l t)))(i:Int):iG (.d (.aB w)) (.d (.str "cell")) (.int i) M=.ok () (M.set w (.dK (lN c i t))):=by
 unfold iG;simp only[h];rw[aG (aP (bj rfl))];rfl
theorem WQ(h:M[w]?=some (.dK (lN c l t)))(i:Int):iG (.d (.aB w)) (.d (.str "drawn")) (.int i) M=.ok () (M.set w (.dK (lN c l i))):=by
 unfold iG;simp only[h];rw[aG (aP (bj rfl))];rfl
end
def ic(F:Fn):Prop:=∀(M:af)(w:Nat)(T many:Int),FG M w T->T<2 ^ 40->0<many->many<1073741824->aQ (F [.aB w,.int many] M) λr M'=>∃i,r=.d (.int i)/\0<=i/\i<many/\FG M' w (T+1)/\Fr w M M'
theorem Kw{G:bo}:ic (ah G 5 r_):=by
 intro M w T many hw hT hm RH;obtain⟨c,l,t,ns,hw,hc,QN,kG,ht,Zd⟩:=hw;rw[bO];show dy G r_ [some (.aB w),some (.int many),none,none,none] M _ _ _ _;have h1:(M.set w (.dK (lN c l (t+1))))[w]?=some (.dK (lN c l (t+1))):=bb hw;have c1:(M.set w (.dK (lN c l (t+1))))[c]?=some (.lst (iD ns)):=aJ hc ∅;have f1:Fr w M (M.set w (.dK (lN c l (t+1)))):=(Fr.refl w M).zS;nofun;rw[WO hw];nofun;rw[WQ hw];generalize M.set w (.dK (lN c l (t+1)))=M1 at h1 c1 f1;nofun;rw[Zc h1];nofun;by_cases Lo:(10:Int) ^ Int.toNat 18<=l
 ·rw[dE Lo];have Lo:(1000000000000000000:Int)<=l:=Lo;nofun;refine⟨⟨hm,RH⟩,?_⟩;nofun;rw[U_ h1];nofun;refine⟨hm,?_⟩;nofun;exact⟨_,rfl,uQ _ ∅,uK _ hm,⟨c,l / many,t+1,ns,bb h1,aJ c1 ∅,QN,kG,∅,∅⟩,f1.zS⟩
 ·rw[c_ Lo];nofun;rw[WO h1];have e1:0<=l % 2147483629:=uQ _ (by decide);have e2:l % 2147483629<2147483629:=uK _ (by decide);nofun;refine⟨by decide,?_⟩;nofun;refine⟨.inl ⟨by decide,by decide⟩,?_⟩;nofun;refine⟨.inr ⟨∅,∅⟩,?_⟩;nofun;refine⟨.inl ⟨∅,∅⟩,?_⟩;nofun;refine⟨by decide,?_⟩;generalize hx:(l % 2147483629+1)*(31*(t+1)*(t+1)+7919) % 2147483647=x;have x1:0<=x:=by rw[<- hx];exact uQ _ (by decide)
  have x2:x<2147483647:=by rw[<- hx];exact uK _ (by decide)
  nofun;refine⟨.inr ⟨by decide,by decide⟩,?_⟩;nofun;refine⟨by decide,?_⟩;nofun;refine⟨hm,?_⟩;nofun;exact⟨_,rfl,uQ _ ∅,uK _ hm,⟨c,l,t+1,ns,h1,c1,QN,kG,∅,∅⟩,f1⟩
theorem Dn{M:af}{n:Nat}{ns:List Int}(hM:M[n]?=some (.lst (iD ns))):bD .ne (.d (.aB n)) (.lv []) M=.ok (!ns.isEmpty) M:=by
 have h1:jZ M (.d (.aB n))=some (.list (ns.map PyData.int)):=by
  show eG M 30 (.aB n)=_;unfold eG;simp only[hM];rw[ur];rfl
 have h2:jZ M (.lv [])=some (.list ([].map PyData.int)):=by show(cw M 30 []).map PyData.list=_;unfold cw;rfl
 unfold bD;simp only[h1,h2,PySem.W.shaped_ints ns,PySem.W.shaped_ints [],nc,fO,PyData.eqv.eq_7]
 cases ns with
 | nil=>rw[m_,PyData.eqvAll.eq_1];rfl
 | cons d ds =>
  have:PyData.eqvAll (PyData.int d::ds.map PyData.int) []=false:=by simp only[PyData.eqvAll]
  rw[d_,m_,this];rfl
def lO(F:Fn):Prop:=∀(M:af)(w:Nat)(T:Int)(k:Nat),FG M w T->k<=1000->aQ (F [.aB w,.int (k:Nat)] M) λr M'=>r=.d .ba/\FG M' w (100*(k:Nat))/\Fr w M M'
theorem Kx{G:bo}:lO (ah G 2 r8):=by
 intro M w T k hw hk;obtain⟨c,l,t,ns,hw,hc,QN,kG,ht,Zd⟩:=hw;rw[bO];show dy G r8 [some (.aB w),some (.int (k:Nat))] M _ _ _ _;nofun;refine⟨.inl ⟨by decide,by decide⟩,?_⟩;nofun;rw[WQ hw];have h1:(M.set w (.dK (lN c l (100*((k:Nat):Int)))))[w]?=some (.dK (lN c l (100*((k:Nat):Int)))):=bb hw;have c1:(M.set w (.dK (lN c l (100*((k:Nat):Int)))))[c]?=some (.lst (iD ns)):=aJ hc ∅;have f1:Fr w M (M.set w (.dK (lN c l (100*((k:Nat):Int))))):=(Fr.refl w M).zS;generalize M.set w (.dK (lN c l (100*((k:Nat):Int))))=M1 at h1 c1 f1;nofun;rw[U_ h1];have h2:(M1.set w (.dK (lN c 0 (100*((k:Nat):Int)))))[w]?=some (.dK (lN c 0 (100*((k:Nat):Int)))):=bb h1;have c2:(M1.set w (.dK (lN c 0 (100*((k:Nat):Int)))))[c]?=some (.lst (iD ns)):=aJ c1 ∅;have f2:Fr w M (M1.set w (.dK (lN c 0 (100*((k:Nat):Int))))):=f1.zS;generalize M1.set w (.dK (lN c 0 (100*((k:Nat):Int))))=M2 at h2 c2 f2;nofun;rw[U9 h2];nofun;refine⟨ae (bj rfl),?_⟩;nofun;rw[Dn c2]
 cases q:ns.isEmpty with
 | true =>
  nofun;exact⟨rfl,⟨c,0,_,ns,h2,c2,QN,kG,∅,∅⟩,f2⟩
 | false =>
  have hp:0<ns.length:=by cases ns with
   | nil=>cases q
   | cons _ _=>rw[eJ];omega
  have hln:(iD ns).length=ns.length:=aR _;have Va:0<=((k:Nat):Int) % ((iD ns).length:Int):=uQ _ ∅;have hr1:((k:Nat):Int) % ((iD ns).length:Int)<((iD ns).length:Int):=uK _ ∅;have Ck:(((k:Nat):Int) % ((iD ns).length:Int)).toNat<ns.length:=∅
  have hg:(iD ns)[(((k:Nat):Int) % ((iD ns).length:Int)).toNat]?=some (.int ns[(((k:Nat):Int) % ((iD ns).length:Int)).toNat]):=by
   rw[ff,fx Ck];rfl
  generalize ns[(((k:Nat):Int) % ((iD ns).length:Int)).toNat]=cell at hg;nofun;rw[U9 h2];nofun;rw[U9 h2];nofun;rw[dk c2];nofun;refine⟨∅,?_⟩;nofun;rw[dD c2 Va hg];nofun;rw[U_ h2];nofun;exact⟨rfl,⟨c,cell,_,ns,bb h2,aJ c2 ∅,QN,kG,∅,∅⟩,f2.zS⟩
def sh(F:Fn):Prop:=∀(M:af)(ns:List Int),ns.length<=63->aQ (F [.ls (iD ns)] M) λr M'=>∃n,r=.d (.aB n)/\FG M' n 0/\Ex M M'
theorem Ky{G:bo}:sh (ah G 1 r6):=by
 intro M ns kG;rw[bO];show dy G r6 [some (.ls (iD ns))] M _ _ _ _;nofun;rw[QM (by rw[aR];exact kG)];have e:(M++[MO.lst (iD ns)]).length=M.length+1:=by rw[cz];rfl
 exact⟨rfl,_,rfl,⟨M.length,0,0,ns,a9,bC a9,∅,kG,Int.le_refl _,Int.le_refl _⟩,Fr.app (Fr.app (Fr.refl _ _))⟩
end Ev
end
section
namespace Ev
open PySem
end Ev
end
section
namespace Ev
open PySem
end Ev
end
section
namespace Ev
open L2
open PySem PySem.Spec PyProof.Rows
structure Mv where
 s:Int
 c:Str
 a:Int
 sd:List (Int×Str)
 w:Option Str
structure Fm where
 ru:List (Int×List Mv)
 ro:List (Int×Int×Str)
noncomputable def pD(p:Int×Str):D:=.tup [.int p.1,.str p.2]
noncomputable def v_:Option Str->D
 | none=>.ba
 | some x=>.str x
def RO(m:Mv):D:=.tup [.int m.s,.str m.c,.int m.a,.tup (m.sd.map pD),v_ m.w]
def RP(r:Int×List Mv):D:=.tup [.int r.1,.tup (r.2.map RO)]
noncomputable def Lp(r:Int×Int×Str):D:=.tup [.int r.1,.int r.2.1,.str r.2.2]
def Ge(f:Fm):D:=.tup [.tup (f.ru.map RP),.tup (f.ro.map Lp)]
noncomputable def An(s:Str):Prop:=s = "a" \/ s = "b" \/ s = "c" \/ s = "z"
def si(w:Option Str):Prop:=∀x,w=some x->x = "x" \/ x = "yes" \/ x = "abcdefgh" \/ x = "own" \/ x = "a" \/ x = "ab" \/ x = "word" \/ x = "xx" \/ x = "no" \/ x = "w"
structure Dp (ro:List (Int×Int×Str)) (m:Nat) (y:Mv):Prop where
 s:0<=y.s/\y.s<100
 c:y.c = "own" \/ y.c = "a" \/ y.c = "b" \/ y.c = "z"
 a:0<=y.a/\y.a<100
 l:y.sd.length<=3
 sd:∀p∈y.sd,An p.2/\0<=p.1/\∃r,ro[p.1.toNat]?=some r/\r.1=m
 w:si y.w
structure QO (n:Nat) (r:Int×Int×Str):Prop where
 a:0<=r.1/\r.1<n
 b:0<=r.2.1/\r.2.1<n
 ab:r.1≠r.2.1
 k:r.2.2 = "row" \/ r.2.2 = "heap"
structure Ao (f:Fm):Prop where
 l1:1<=f.ru.length
 l4:f.ru.length<=4
 l8:f.ro.length<=8
 ro:∀r∈f.ro,QO f.ru.length r
 ru:∀m x,f.ru[m]?=some x->(0<=x.1/\x.1<100)/\x.2.length<=28/\∀y∈x.2,Dp f.ro m y
theorem Ap{α:Type}{toD:α->D}:∀{ds:List D}{Q:Nat->α->Prop},(∀m x,ds[m]?=some x->∃a,x=toD a/\Q m a)->∃as:List α,ds=as.map toD/\∀m a,as[m]?=some a->Q m a
  | [],Q,_=>⟨[],rfl,λm a h=>by simp at h⟩
  | d::ds,Q,h=>by
    obtain⟨as,e,q⟩:=Ap (toD:=toD) (ds:=ds) (Q:=λm a=>Q (m+1) a) λm x hx=>h (m+1) x (by simpa using hx);obtain⟨a,e0,q0⟩:=h 0 d (by simp);refine⟨a::as,by rw[d_,<- e,e0],λm b hb=>?_⟩
    cases m with
    | zero => have : a = b := by simpa using hb
              subst this;exact q0
    | succ m=>exact q m b (by simpa using hb)
theorem sj{α:Type}{toD:α->D}{ds:List D}{Q:α->Prop}(h:∀x∈ds,∃a,x=toD a/\Q a):∃as:List α,ds=as.map toD/\∀a∈as,Q a:=by
 obtain⟨as,e,q⟩:=Ap (toD:=toD) (ds:=ds) (Q:=λ_ a=>Q a) λm x hx=>h x (cT hx);exact⟨as,e,λa ha=>by obtain⟨i,hi,rfl⟩:=Be.mp ha;exact q i _ (fx hi)⟩
theorem sk{d:D}(h:Gd d):∃f,d=Ge f/\Ao f:=by
 obtain⟨rules,bF,rfl,h1,h4,h8,vt,QP⟩:=h
 obtain⟨ro,rfl,Vb⟩:=sj (toD:=Lp) (ds:=bF) (Q:=QO rules.length) λx hx=>by
  obtain⟨a,b,k,rfl,a0,a1,b0,b1,ab,hk⟩:=vt x hx;exact⟨(a,b,k),rfl,⟨a0,a1⟩,⟨b0,b1⟩,ab,hk⟩
 obtain⟨ru,e,hr⟩:=Ap (toD:=RP) (ds:=rules) (Q:=λm x=>(0<=x.1/\x.1<100)/\x.2.length<=28/\∀y∈x.2,Dp ro m y) λm x hx=>by
  obtain⟨st,moves,rfl,⟨i,rfl,i0,i1⟩,hl,hm⟩:=QP m x hx
  obtain⟨mv,rfl,Ze⟩:=sj (toD:=RO) (ds:=moves) (Q:=Dp ro m) λy hy=>by
   obtain⟨s,c,a,sd,wd,rfl,⟨s',rfl,s0,s1⟩,⟨c',rfl,hc⟩,⟨a',rfl,a0,a1⟩,hl,Kz,hw⟩:=hm y hy
   obtain⟨Zf,rfl,hs⟩:=sj (toD:=pD) (ds:=sd) (Q:=λp=>An p.2/\0<=p.1/\∃r,ro[p.1.toNat]?=some r/\r.1=(m:Int)) λz hz=>by
    obtain⟨r,c,rfl,⟨r0,b,k,hr⟩,hc⟩:=Kz z hz;rw[ff]at hr
    cases e:ro[r.toNat]? with
    | none=>rw[e]at hr;cases hr
    | some q =>
     rw[e]at hr;have hr:Lp q=.tup [.int m,b,k]:=cH hr;refine⟨(r,c),rfl,hc,r0,q,e,?_⟩;unfold Lp at hr;simp only[D.tup.injEq,List.cons.injEq,D.int.injEq]at hr;exact hr.1
   have Zg:∃w,wd=v_ w/\si w:=by
    rcases hw with rfl | ⟨x,rfl,hx⟩
    ·exact⟨none,rfl,λx h=>by cases h⟩
    ·exact⟨some x,rfl,λy h=>by cases h;exact hx⟩
   obtain⟨w,rfl,Dq⟩:=Zg;exact⟨⟨s',c',a',Zf,w⟩,rfl,⟨s0,s1⟩,hc,⟨a0,a1⟩,by simpa using hl,hs,Dq⟩
  exact⟨(i,mv),rfl,⟨i0,i1⟩,by simpa using hl,Ze⟩
 subst e;rw[aR]at h1 h4;exact⟨⟨ru,ro⟩,rfl,h1,h4,by simpa using h8,by simpa using Vb,hr⟩
end Ev
end
section
namespace Ev
open PySem
end Ev
end
section
namespace Ev
open L2
open PySem PySem.Spec PyProof.Rows
end Ev
end
section
namespace Ev
open PySem
end Ev
end
section
namespace Ev
open L2
open PySem PySem.Spec PyProof.Rows
theorem Dr(i:Int):PyData.strOk (Str.ofString (toString i))=true:=by
 unfold PyData.strOk;rw[Array.all_eq_true'];intro c hc;refine dE ?_;refine Gq λh=>?_;exact int_text_free' c ⟨∅,∅⟩ i (by simpa using hc)
theorem KA{i:Int}(h0:0<=i)(h1:i<10 ^ 12):Sm 14 0 (.int i):=by
 have hn:i.natAbs<10 ^ 12:=∅
 have Vc:i.natAbs.log2<1920:=by
  by_cases h0:i.natAbs=0
  ·rw[h0];decide
  ·exact(Nat.log2_lt h0).mpr (fc hn (by decide))
 refine⟨.int i,λM n _=>by cases n<;>(unfold eG;rfl),PyData.canLay0.eq_3 i,?_,na (PyData.depth.eq_6 i),?_⟩
 ·rw[PyData.showable.eq_4];exact dE Vc
 ·rw[PyData.shown.eq_3];refine⟨?_,Dr i⟩;have:=int_text_length_le10 (a:=i) (k:=12) (by decide) hn;rw[PySem.ofString_length];omega
end Ev
end
section
namespace Ev
open PySem
end Ev
end
section
namespace Ev
open L2
open PySem PySem.Spec PyProof.Rows
end Ev
end
section
namespace Ev
open PySem
end Ev
end
section
namespace Ev
open L2
open PySem PySem.Spec PyProof.Rows
theorem Ds{M:af}{n:Nat}{ds:List D}(h:M[n]?=some (.lst ds)):oJ .clear (.d (.aB n)) [] M=.ok (.d .ba) (M.set n (.lst [])):=by
 unfold oJ;simp only[h]
theorem Dt{G:bo}{ρ:En}{M:af}{m:Int}{i n3 q3 q7:Nat}{bF:List D}{P:W->af->Prop}(h7:ρ[q7]?=some (some (.int i)))(h3:ρ[q3]?=some (some (.aB n3)))(hn:M[n3]?=some (.lst bF))(QQ:bF.length<=8)(vt:∀x∈bF,lM m x)(q:∀fw,fw.length<=8->(∀d∈fw,∃r,d=.int r/\fH bF i r)->P (.lv fw) M):wE G (.comp .rng1 [(.bi .len [(.eZ q3)])] [1] (some (.val (.cmp .eq (.sub (.sub (.eZ 3) (.eZ 1)) (.a8 (.int 0))) (.eZ 2)))) (.eZ 1) [none,none,some q7,some q3]) ρ M P:=by
 nofun;rw[h3];nofun;rw[dk hn];nofun;refine⟨⟨∅,∅⟩,?_⟩;rw[show d0 [none,none,some q7,some q3] ρ=[none,none,some (.int i),some (.aB n3)] by unfold d0;simp only[d_,m_,Option.bind_none,Option.bind_some,h7,h3,Option.join_some]];refine QA (n:=(bF.length:Int).toNat) (λk M' aA=>M=M'/\aA.length<=k/\∀d∈aA,∃r,d=.int r/\fH bF i r) (by decide) ⟨rfl,a7 _,(by intro d h;cases h)⟩ ?_ ?_
 ·rintro k M7 aA hk ⟨rfl,WR,RQ⟩;have BY:k<bF.length:=∅;refine⟨aP ∅,?_⟩;obtain⟨a,b,kk,Zh⟩:=Am vt BY;have QR:bF[((0:Int)+(k:Nat)).toNat]?=some (.tup [.int a,.int b,.str kk]):=by rw[show((0:Int)+(k:Nat)).toNat=k by omega];exact Zh
  nofun;rw[dD hn (show(0:Int)<=0+(k:Nat) by omega) QR];nofun
  cases q:(a==(i:Int))with
  | true =>
   have q:a=i:=by simpa using q
   subst q;refine⟨rfl,by simp;omega,?_⟩;intro d hd;rcases fN.mp hd with z | z
   ·exact RQ d z
   ·have:d=.int (0+k):=by simpa using z
    subst this;exact⟨_,rfl,∅,.int b,.str kk,QR⟩
  | false=>exact⟨rfl,∅,RQ⟩
 ·rintro M7 fw ⟨rfl,WR,RQ⟩;exact q fw ∅ RQ
theorem Vd{M:af}{i:Int}(h0:0<=i)(h1:i<3):∃c,dN (.d (.str "abz")) (.d (.int i)) M=.ok (.d (.str c)) M/\An c:=by
 have:i=0\/i=1\/i=2:=∅;rcases this with rfl | rfl | rfl
 ·exact⟨"a",rfl,.inl rfl⟩
 ·exact⟨"b",rfl,.inr (.inl rfl)⟩
 ·exact⟨"z",rfl,.inr (.inr (.inr rfl))⟩
noncomputable def sm:List D:=[.ba,.ba,.str "x",.str "xx",.str "yes",.str "no"]
theorem wa:∀d∈sm,Al d:=by
 intro d hd;unfold sm at hd;simp only[bw,oS,dH]at hd;rcases hd with rfl | rfl | rfl | rfl | rfl | rfl
 ·exact .inl rfl
 ·exact .inl rfl
 ·exact .inr ⟨_,rfl,.inl rfl⟩
 ·exact .inr ⟨_,rfl,.inr (.inr (.inr (.inr (.inr (.inr (.inr (.inl rfl)))))))⟩
 ·exact .inr ⟨_,rfl,.inr (.inl rfl)⟩
 ·exact .inr ⟨_,rfl,.inr (.inr (.inr (.inr (.inr (.inr (.inr (.inr (.inl rfl))))))))⟩
theorem KB{i:Int}(h0:0<=i)(h1:i<3):RN (.int i):=⟨i,rfl,h0,∅⟩
noncomputable def RS(aL:Nat):List S:=[.asg [8] (.sub (.lst [(.a8 .ba),(.a8 .ba),(.a8 (.str "x")),(.a8 (.str "xx")),(.a8 (.str "yes")),(.a8 (.str "no"))]) (.call aL [0,(.kn 6)])),.ret (.tup [2,3,(.call aL [0,(.kn 3)]),(.bi .tuple1 [7]),8])]
theorem Gf{G:bo}{aL:Nat}(hD:ic (G aL)){M:af}{w n7:Nat}{T st:Int}{a1 a4 a5 a6 o8:Option D}{cd:D}{sd:List D}{P:Int->Prop}{nx bk ct:En->af->Prop}{rt:W->af->Prop}(hw:FG M w T)(hT:T<2 ^ 39)(s0:0<=st)(s1:st<3)(hc:oB cd)(h7:M[n7]?=some (.lst sd))(w7:w<n7)(hl:sd.length<=3)(Kz:∀x∈sd,Ak P x)(q:∀d M',qv P d->FG M' w (T+2)->Fr w M M'->rt (.d d) M'):dy G (RS aL) [some (.aB w),a1,some (.int st),some cd,a4,a5,a6,some (.aB n7),o8] M nx rt bk ct:=by
 unfold RS;nofun;refine⟨ae (bj rfl),?_⟩;nofun;refine(hD M w _ 6 hw ∅ ∅ ∅).imp ?_;rintro r M6 ⟨i6,rfl,Gg,Lq,Gh,f6⟩;obtain⟨wd,Ve,Zi⟩:=rZ (P:=Al) (ds:=sm) (i:=i6) (k:=6) wa Gg Lq rfl;have Ve:[D.ba,.ba,.str "x",.str "xx",.str "yes",.str "no"][i6.toNat]?=some wd:=Ve;nofun;rw[ib Gg Ve];nofun;refine(hD M6 w _ 3 Gh ∅ ∅ ∅).imp ?_;rintro r M7 ⟨i7,rfl,QS,QT,KC,f7⟩;have r5:=(f6.trans f7).get h7 ∅;nofun;rw[cM r5];nofun;refine⟨ae (bj rfl),?_⟩;nofun;exact q _ _ ⟨_,_,_,_,_,rfl,KB s0 s1,hc,KB QS QT,hl,Kz,Zi⟩ (KC.mono ∅) (f6.trans f7)
def oC(F:Fn):Prop:=∀(M:af)(w nr:Nat)(T mm:Int)(bF:List D)(m:Nat)(st:Int)(cd:D),FG M w T->T<2 ^ 38->M[nr]?=some (.lst bF)->w<nr->bF.length<=8->(∀x∈bF,lM mm x)->0<=st->st<3->oB cd->aQ (F [.aB w,.int (m:Nat),.int st,cd,.aB nr] M) λr M'=>∃d,r=.d d/\qv (fH bF m) d/\FG M' w (T+10)/\Fr w M M'
theorem KD{G:bo}{aL:Nat}(hD:ic (G aL)):oC (ah G 9 (se aL)):=by
 intro M w nr T mm bF m st cd hw hT hn wn QQ vt s0 s1 hc;have Ft:=hw.lt;have hnl:=bx hn;rw[bO];show dy G (se aL) [some (.aB w),some (.int (m:Nat)),some (.int st),some cd,some (.aB nr),none,none,none,none] M _ _ _ _;show wE G (.comp .rng1 [(.bi .len [(.eZ 4)])] [1] (some (.val (.cmp .eq (.sub (.sub (.eZ 3) (.eZ 1)) (.a8 (.int 0))) (.eZ 2)))) (.eZ 1) [none,none,some 1,some 4]) [some (.aB w),some (.int (m:Nat)),some (.int st),some cd,some (.aB nr),none,none,none,none] M _;refine Dt (i:=m) rfl rfl hn QQ vt λfw Zj QU=>?_
 have QV:∀d∈fw,Sm 14 0 d:=λd hd=>by
  obtain⟨r,rfl,Va,b,k',hr⟩:=QU d hd;have:=(dq.mp hr).1;exact KA Va ∅
 nofun;refine⟨ae (bj rfl),?_⟩;nofun;refine⟨ae (bj rfl),?_⟩;have e1:(M++[MO.lst fw]).length=M.length+1:=by rw[cz];rfl
 have j1:((M++[MO.lst fw])++[MO.lst []])[M.length]?=some (.lst fw):=bC a9;have j2:((M++[MO.lst fw])++[MO.lst []])[M.length+1]?=some (.lst []):=by rw[<- e1];exact a9
 have QW:FG ((M++[MO.lst fw])++[MO.lst []]) w T:=hw.app.app;have f0:Fr w M ((M++[MO.lst fw])++[MO.lst []]):=((Fr.refl w M).app).app;nofun;rw[e1];generalize ((M++[MO.lst fw])++[MO.lst []])=M0 at j1 j2 QW f0⊢;rw[Kv j1 QV ∅ (by decide)]
 cases hq:fw.isEmpty with
 | true =>
  nofun;show dy G (RS aL) _ M0 _ _ _ _;exact Gf hD QW ∅ s0 s1 hc j2 ∅ (lX _) (P:=fH bF m) (λx hx=>by cases hx) λd M' h1 h2 h3=>⟨d,rfl,h1,h2.mono ∅,f0.trans h3⟩
 | false =>
  have Vf:0<fw.length:=by cases fw with
   | nil=>cases hq
   | cons _ _=>rw[eJ];omega
  nofun;refine⟨ae (bj rfl),?_⟩;nofun;refine(hD M0 w _ 5 QW ∅ ∅ ∅).imp ?_;rintro r M4 ⟨i4,rfl,Vg,WS,QX,f4⟩
  obtain⟨jd,Zk,jj,e,Zl,hj2⟩:=rZ (P:=λd=>∃j:Int,d=.int j/\0<=j/\j<=3) (ds:=[.int 0,.int 1,.int 1,.int 2,.int 3]) (i:=i4) (k:=5) (by
   intro d hd;simp only[bw,oS,dH]at hd;rcases hd with rfl | rfl | rfl | rfl | rfl<;>exact⟨_,rfl,∅,∅⟩) Vg WS rfl
  subst e;have k1:=f4.get j1 ∅;have k2:=f4.get j2 ∅;nofun;rw[ib Vg Zk];nofun;refine⟨⟨∅,∅⟩,?_⟩;refine lH (n:=jj.toNat) (λt ρ M'=>∃o5 sd,ρ=[some (.aB w),some (.int (m:Nat)),some (.int st),some cd,some (.aB nr),o5,some (.aB M.length),some (.aB (M.length+1)),none]/\M'[M.length+1]?=some (.lst sd)/\sd.length<=t/\(∀x∈sd,Ak (fH bF m) x)/\M'[M.length]?=some (.lst fw)/\Fr w M M'/\FG M' w (T+1+2*t)) ⟨_,[],rfl,k2,a7 _,λx h=>(by cases h),k1,f0.trans f4,QX.mono ∅⟩ ?_ ?_
  ·intro J3 Zm Zn RT;rintro t ρ M5 ht ⟨o5,sd,rfl,q5,ql,qs,q1,qf,qw⟩;have ht3:t<3:=∅;nofun;refine⟨bA q5,?_⟩;nofun;rw[dk q1];nofun;refine(hD M5 w _ _ qw ∅ ∅ ∅).imp ?_;rintro r M6 ⟨i6,rfl,Gg,Lq,Gh,f6⟩;obtain⟨d',Sz,r,e,hr⟩:=rZ (P:=λd=>∃r,d=.int r/\fH bF m r) (ds:=fw) (i:=i6) (k:=fw.length) QU Gg Lq rfl;subst e;have r1:=f6.get q1 ∅;nofun;rw[dD r1 Gg Sz];nofun;refine(hD M6 w _ 3 Gh ∅ ∅ ∅).imp ?_;rintro r' M7 ⟨i7,rfl,QS,QT,KC,f7⟩;obtain⟨c,oY,BL⟩:=Vd (M:=M7) QS QT;have Lr:=f6.trans f7;have r5:=Lr.get q5 ∅;have bm:=bx r5;nofun;rw[oY];nofun;refine⟨ae (bj rfl),?_⟩;nofun;rw[bP r5 (aP ∅)];nofun;refine RT _ _ _ ⟨_,_,rfl,bb r5,by rw[cz];show _+1<=_;omega,?_,aJ (Lr.get q1 ∅) ∅,(qf.trans Lr).set ∅,(KC.set ∅).mono ∅⟩;intro x hx;rcases fN.mp hx with z | z
   ·exact qs x z
   ·rw[gG.mp z];exact⟨_,_,rfl,hr,BL⟩
  ·rintro ρ M5 ⟨o5,sd,rfl,q5,ql,qs,q1,qf,qw⟩;nofun;show dy G (RS aL) _ M5 _ _ _ _;exact Gf hD qw ∅ s0 s1 hc q5 ∅ ∅ qs λd M' h1 h2 h3=>⟨d,rfl,h1,h2.mono ∅,qf.trans h3⟩
end Ev
end
section
namespace Ev
open PySem
end Ev
end
section
namespace Ev
open L2
open PySem PySem.Spec PyProof.Rows
theorem KG{d:D} (h:d∈[D.str "own",.str "a",.str "b"]):oB d:=by
 simp only[bw,oS,dH]at h;rcases h with rfl | rfl | rfl
 ·exact⟨_,rfl,.inl rfl⟩
 ·exact⟨_,rfl,.inr (.inl rfl)⟩
 ·exact⟨_,rfl,.inr (.inr (.inl rfl))⟩
end Ev
end
section
namespace Ev
open PySem
end Ev
end
section
namespace Ev
open L2
open PySem PySem.Spec PyProof.Rows
theorem su{m a b:Int}(hm:1<m)(a0:0<=a)(a1:a<m)(b0:0<=b)(b1:b<m-1){k:Str} (hk:k = "row" \/ k = "heap"):lM m (.tup [.int a,.int ((a+1+b) % m),.str k]):=by
 refine⟨_,_,_,rfl,a0,a1,uQ _ ∅,uK _ ∅,λz=>?_,hk⟩;by_cases q:a+1+b<m
 ·rw[Int.emod_eq_of_lt ∅ q]at z;omega
 ·have e2:(a+1+b) % m=a+1+b-m:=by
   rw[<- Int.sub_emod_right,Int.emod_eq_of_lt ∅ ∅]
  rw[e2]at z;omega
def sv(F:Fn):Prop:=∀(M:af)(w:Nat)(T:Int),FG M w T->aQ (F [.aB w] M) λr M'=>∃f,r=.d (Ge f)/\Ao f/\FG M' w 1000/\Fr w M M'
theorem QY{P:D->Prop}{mv:List D}{i:Nat}{y:D}(h:∀x∈mv,P x)(k:P y):∀x∈mv.take i++y::mv.drop i,P x:=λx hx=>by
 rcases fN.mp hx with q | q
 ·exact h x (List.mem_of_mem_take q)
 ·rcases bw.mp q with z | z
  ·rw[z];exact k
  ·exact h x (List.mem_of_mem_drop z)
def RU(dz aL dZ:Nat):List S:=[.asg [6] (.lst []),.cA [7] .rng1 [1] [.expr (.call dz [0,(.bin .add (.kn 1) 7)]),.asg [8] (.lst []),.cA [9] .rng1 [(.kn 3)] [.cA [10] .seq [(.lst [(.a8 (.str "own")),(.a8 (.str "a")),(.a8 (.str "b"))])] [.iff (.val (.cmp .gt (.call aL [0,(.kn 4)]) (.kn 0))) [.asg [11] (.call dZ [0,7,9,10,2]),.expr (.me .insert 8 [(.call aL [0,(.bin .add (.bi .len [8]) (.kn 1))]),11])] []]],.expr (.me .append 6 [(.tup [(.call aL [0,(.kn 3)]),(.bi .tuple1 [8])])])],.ret (.tup [(.bi .tuple1 [6]),(.bi .tuple1 [2])])]
theorem Gi{G:bo}{dz aL dZ:Nat}(hO:lO (G dz))(hD:ic (G aL))(hV:oC (G dZ)){M0 M:af}{w n2:Nat}{m:Int}{rs:List D}{T:Int}{o3 o4 o5:Option D}{nx:En->af->Prop}{rt:W->af->Prop}{bk ct:En->af->Prop}(hw:FG M w T)(h2:M[n2]?=some (.lst rs))(wn:w<n2)(Vh:1<=m)(Vi:m<=4)(QQ:rs.length<=8)(vt:∀x∈rs,lM m x)(fr:Fr w M0 M)(q:∀f M',Ao f->FG M' w 1000->Fr w M0 M'->rt (.d (Ge f)) M'):dy G (RU dz aL dZ) [some (.aB w),some (.int m),some (.aB n2),o3,o4,o5,none,none,none,none,none,none] M nx rt bk ct:=by
 have b2:=bx h2;have bM0:=fr.1;unfold RU;nofun;refine⟨ae (bj rfl),?_⟩;nofun;refine⟨⟨∅,∅⟩,?_⟩;refine lH (n:=m.toNat) (λi ρ M'=>∃o7 o8 o9 sA sC rules T,ρ=[some (.aB w),some (.int m),some (.aB n2),o3,o4,o5,some (.aB M.length),o7,o8,o9,sA,sC]/\M'[M.length]?=some (.lst rules)/\rules.length=i/\M'[n2]?=some (.lst rs)/\(∀k x,rules[k]?=some x->Gb rs k x)/\(FG M' w T/\(0<i->T=1000))/\Fr w M0 M') ⟨_,_,_,_,_,[],T,rfl,a9,rfl,bC h2,λk x h=>(by simp at h),⟨hw.app,λh=>absurd h (jO 0)⟩,fr.app⟩ ?_ ?_
 ·intro J1 Zo Zq up1;rintro i ρ M1 hi ⟨o7,o8,o9,sA,sC,rules,T1,rfl,h6,Vj,RV,QP,⟨QZ,_⟩,Ls⟩;rw[show(0:Int)+(i:Int)=((i:Nat):Int) by omega];have b6:=bx h6;have bm:M.length≠n2:=∅;nofun;rw[show(1:Int)+(i:Int)=((1+i:Nat):Int) by omega];refine(hO M1 w T1 (1+i) QZ ∅).imp ?_;rintro r M2 ⟨rfl,Dq,f2⟩;have WT:=f2.get h6 ∅;have Lu:=f2.get RV ∅;nofun;refine⟨ae (bj rfl),?_⟩;have h8:(M2++[MO.lst []])[M2.length]?=some (.lst []):=a9;have WU:(M2++[MO.lst []])[M.length]?=some (.lst rules):=bC WT;have RX:(M2++[MO.lst []])[n2]?=some (.lst rs):=bC Lu;have Lv:FG (M2++[MO.lst []]) w 500:=Dq.app.mono ∅;have Ob:Fr w M0 (M2++[MO.lst []]):=(Ls.trans f2).app;have b62:=bx WT;nofun;generalize M2++[MO.lst []]=M3 at h8 WU RX Lv Ob;refine⟨⟨by decide,by decide⟩,?_⟩;have n8:M2.length≠M.length:=∅;have Zr:M0.length<=M2.length:=(Ls.trans f2).1;have WV:M2.length≠n2:=by have:=bx Lu;omega
  have w8:w<M2.length:=∅;generalize M2.length=RY at h8 n8 WV w8 Zr;refine lH (λj ρ M'=>∃o9 sA sC mv,ρ=[some (.aB w),some (.int m),some (.aB n2),o3,o4,o5,some (.aB M.length),some (.int i),some (.aB RY),o9,sA,sC]/\M'[RY]?=some (.lst mv)/\mv.length<=3*j/\(∀y∈mv,qv (fH rs i) y)/\M'[M.length]?=some (.lst rules)/\M'[n2]?=some (.lst rs)/\FG M' w (500+60*j)/\Fr w M0 M') ⟨_,_,_,[],rfl,h8,a7 _,λy h=>(by cases h),WU,RX,Lv.mono ∅,Ob⟩ ?_ ?_
  ·intro J2 WW WX Vk;rintro j ρ M4 hj ⟨o9,sA,sC,mv,rfl,k8,kl,Vl,k6,k2,kw,kf⟩;have hj:j<3:=hj;rw[show(0:Int)+(j:Int)=((j:Nat):Int) by omega];nofun;refine⟨ae (bj rfl),?_⟩;refine gu (ds:=[.str "own",.str "a",.str "b"]) (λk ρ M'=>∃sA sC mv,ρ=[some (.aB w),some (.int m),some (.aB n2),o3,o4,o5,some (.aB M.length),some (.int i),some (.aB RY),some (.int (j:Nat)),sA,sC]/\M'[RY]?=some (.lst mv)/\mv.length<=3*j+k/\(∀y∈mv,qv (fH rs i) y)/\M'[M.length]?=some (.lst rules)/\M'[n2]?=some (.lst rs)/\FG M' w (500+60*j+20*k)/\Fr w M0 M') ⟨_,_,mv,rfl,k8,∅,Vl,k6,k2,kw.mono ∅,kf⟩ ?_ ?_
   ·intro J3 Zm Zn RT;rintro k ρ M5 d hd ⟨sA,sC,mv,rfl,l8,ll,RZ,l6,l2,lw,lf⟩;have hk:k<3:=(dq.mp hd).1;have hc:=KG (cT hd);nofun;refine(hD M5 w _ 4 lw ∅ ∅ ∅).imp ?_;rintro r M6 ⟨i6,rfl,Gg,Lq,Gh,f6⟩;have m8:=f6.get l8 ∅;have m6:=f6.get l6 ∅;have m2:=f6.get l2 ∅;nofun;by_cases hp:0<i6
    ·rw[dE hp];nofun;refine(hV M6 w n2 _ m rs i (j:Nat) d Gh ∅ m2 wn QQ vt ∅ ∅ hc).imp ?_;rintro r M7 ⟨y,rfl,hy,KC,f7⟩;have p8:=f7.get m8 ∅;nofun;refine⟨bA p8,?_⟩;nofun;rw[dk p8];nofun;refine(hD M7 w _ _ KC ∅ ∅ ∅).imp ?_;rintro r M8 ⟨i8,rfl,R0,WY,Vm,f8⟩;have q8:=f8.get p8 ∅;nofun;rw[zV q8 (aP ∅) R0 ∅];nofun;have Vn:=(f6.trans f7).trans f8;refine RT _ _ _ ⟨_,_,_,rfl,bb q8,?_,QY RZ hy,aJ (Vn.get l6 ∅) (ig n8),aJ (Vn.get l2 ∅) (ig WV),(Vm.set w8).mono ∅,?_⟩
     ·rw[cz,eJ,fT,List.length_drop];omega
     ·exact(lf.trans Vn).set ∅
    ·rw[c_ hp];nofun;exact RT _ _ _ ⟨_,_,mv,rfl,m8,∅,RZ,m6,m2,Gh.mono ∅,lf.trans f6⟩
   ·rintro ρ M5 ⟨sA,sC,mv,rfl,l8,ll,RZ,l6,l2,lw,lf⟩;have ll:mv.length<=3*j+3:=ll;have lw:FG M5 w (500+60*j+20*(3:Nat)):=lw;exact Vk _ _ _ ⟨_,_,_,mv,rfl,l8,∅,RZ,l6,l2,lw.mono ∅,lf⟩
  ·rintro ρ M4 ⟨o9,sA,sC,mv,rfl,k8,kl,Vl,k6,k2,kw,kf⟩;have kl:mv.length<=3*3:=kl;have kw:FG M4 w (500+60*(3:Nat)):=kw;nofun;refine⟨bA k6,?_⟩;nofun;refine(hD M4 w _ 3 kw ∅ ∅ ∅).imp ?_;rintro r M5 ⟨i5,rfl,WZ,W0,Lw,f5⟩;have l8:=f5.get k8 ∅;have l6:=f5.get k6 ∅;nofun;rw[cM l8];nofun;refine⟨ae (bj rfl),?_⟩;nofun;rw[bP l6 (aP ∅)];nofun;refine up1 _ _ _ ⟨_,_,_,_,_,_,1000,rfl,bb l6,by rw[cz,Vj];rfl,aJ (f5.get k2 ∅) ∅,λk y hk=>?_,⟨(Lw.set ∅).mono ∅,λ_=>rfl⟩,(kf.trans f5).set ∅⟩;by_cases BY:k<rules.length
   ·rw[fL BY]at hk;exact QP k y hk
   ·have Zs:k=rules.length:=by have:=(dq.mp hk).1;simp at this;omega
    subst Zs;simp at hk;subst hk;rw[Vj];exact⟨_,mv,rfl,KB WZ W0,∅,Vl⟩
 ·rintro ρ M4 ⟨o7,o8,o9,sA,sC,rules,T1,rfl,h6,Vj,k3,QP,⟨QX,Zt⟩,Vo⟩;have:=Zt ∅;subst this;nofun;rw[cM h6];nofun;rw[cM k3];nofun;have Zu:Gd (.tup [.tup rules,.tup rs]):=⟨rules,rs,rfl,∅,∅,QQ,by rw[show(rules.length:Int)=m by omega];exact vt,QP⟩;obtain⟨f,ef,hf⟩:=sk Zu;refine⟨ae (bj rfl),?_⟩;rw[ef];exact q f _ hf QX Vo
theorem KH{G:bo}{dz aL dZ:Nat}(hO:lO (G dz))(hD:ic (G aL))(hV:oC (G dZ)):sv (ah G 12 (sg dz aL dZ)):=by
 intro M w T hw;have Ft:=hw.lt;rw[bO];show dy G (sg dz aL dZ) [some (.aB w),none,none,none,none,none,none,none,none,none,none,none] M _ _ _ _;nofun;refine(hO M w T 0 hw ∅).imp ?_;rintro r M0 ⟨rfl,QW,f0⟩;nofun;refine⟨ae (bj rfl),?_⟩;nofun;refine(hD M0 w _ 6 QW ∅ ∅ ∅).imp ?_;rintro r M1 ⟨i1,rfl,W2,Zv,QZ,f1⟩
 obtain⟨d,hd,m,e,Vh,Vi⟩:=rZ (P:=λd=>∃j:Int,d=.int j/\1<=j/\j<=4) (ds:=[.int 1,.int 2,.int 2,.int 3,.int 3,.int 4]) (i:=i1) (k:=6) (by
  intro d hd;simp only[bw,oS,dH]at hd;rcases hd with rfl | rfl | rfl | rfl | rfl | rfl<;>exact⟨_,rfl,∅,∅⟩) W2 Zv rfl
 subst e;have Ls:Fr w M M1:=f0.trans f1;nofun;rw[ib W2 hd];nofun;refine⟨ae (bj rfl),?_⟩;have h2:(M1++[MO.lst []])[M1.length]?=some (.lst []):=a9;have Dq:FG (M1++[MO.lst []]) w 10:=QZ.app.mono ∅;have Vp:Fr w M (M1++[MO.lst []]):=Ls.app;have wn:w<M1.length:=by have:=Ls.1;omega
 have bM:M.length<=M1.length:=Ls.1;nofun;generalize M1++[MO.lst []]=M2 at h2 Dq Vp;by_cases hp:1<m
 ·rw[dE hp];nofun;refine⟨ae (bj rfl),?_⟩;nofun;refine(hD M2 w _ 6 Dq ∅ ∅ ∅).imp ?_;rintro r M3 ⟨i3,rfl,Q0,Vq,Lv,f3⟩
  obtain⟨d,hd,j,e,Zl,hj8⟩:=rZ (P:=λd=>∃j:Int,d=.int j/\1<=j/\j<=8) (ds:=[.int 1,.int 2,.int 3,.int 4,.int 5,.int 8]) (i:=i3) (k:=6) (by
   intro d hd;simp only[bw,oS,dH]at hd;rcases hd with rfl | rfl | rfl | rfl | rfl | rfl<;>exact⟨_,rfl,∅,∅⟩) Q0 Vq rfl
  subst e;nofun;rw[ib Q0 hd];nofun;refine(hD M3 w _ 8 Lv ∅ ∅ ∅).imp ?_;rintro r M4 ⟨i4,rfl,Vg,WS,QX,f4⟩;have Vr:=(f3.trans f4).get h2 ∅;have Vo:Fr w M M4:=Vp.trans (f3.trans f4);nofun;have Zw:(0:Int)<=(if (i4==(0:Int))=true then (1:Int) else 0)/\(if (i4==(0:Int))=true then (1:Int) else 0)<=1:=by cases (i4==(0:Int))<;>decide
  generalize (if (i4==(0:Int))=true then (1:Int) else 0)=z at Zw;refine⟨⟨∅,∅⟩,?_⟩;refine lH (n:=(j-z).toNat) (λt ρ M'=>∃o3 o4 o5 rs,ρ=[some (.aB w),some (.int m),some (.aB M1.length),o3,o4,o5,none,none,none,none,none,none]/\M'[M1.length]?=some (.lst rs)/\rs.length<=t/\(∀x∈rs,lM m x)/\FG M' w (20+3*t)/\Fr w M M') ⟨_,_,_,[],rfl,Vr,a7 _,λx h=>(by cases h),QX.mono ∅,Vo⟩ ?_ ?_
  ·intro J1 Zo Zq up1;rintro t ρ M5 ht ⟨o3,o4,o5,rs,rfl,h3,hl,vt,Lw,Fi⟩;have ht8:t<8:=∅;nofun;refine(hD M5 w _ m Lw ∅ ∅ ∅).imp ?_;rintro r M6 ⟨i6,rfl,Gg,Lq,Gh,f6⟩;nofun;refine(hD M6 w _ (m-1) Gh ∅ ∅ ∅).imp ?_;rintro r M7 ⟨i7,rfl,QS,QT,KC,f7⟩;nofun;refine⟨∅,?_⟩;have Lr:=f6.trans f7;have W3:=Lr.get h3 ∅;nofun;refine⟨bA W3,?_⟩;nofun;refine⟨ae (bj rfl),?_⟩;nofun;refine(hD M7 w _ 2 KC ∅ ∅ ∅).imp ?_;rintro r M8 ⟨i8,rfl,R0,WY,Vm,f8⟩
   obtain⟨k,hk,k',e,BY⟩:=rZ (P:=λd=>∃k:Str,d=.str k/\(k = "row" \/ k = "heap")) (ds:=[.str "row",.str "heap"]) (i:=i8) (k:=2) (by
    intro d hd;simp only[bw,oS,dH]at hd;rcases hd with rfl | rfl
    ·exact⟨_,rfl,.inl rfl⟩
    ·exact⟨_,rfl,.inr rfl⟩) R0 WY rfl
   subst e;have W4:=f8.get W3 ∅;nofun;rw[ib R0 hk];nofun;refine⟨ae (bj rfl),?_⟩;nofun;rw[bP W4 (aP ∅)];nofun;refine up1 _ _ _ ⟨_,_,_,_,rfl,bb W4,by rw[cz];show _+1<=_;omega,?_,(Vm.set ∅).mono ∅,(Fi.trans (Lr.trans f8)).set ∅⟩;intro x hx;rcases fN.mp hx with z | z
   ·exact vt x z
   ·rw[gG.mp z];exact su hp Gg Lq QS QT BY
  ·rintro ρ M5 ⟨o3,o4,o5,rs,rfl,h3,hl,vt,Lw,Fi⟩;show dy G (RU dz aL dZ) _ M5 _ _ _ _;exact Gi hO hD hV Lw h3 wn Vh Vi ∅ vt Fi λf M' k1 k2 k3=>⟨f,rfl,k1,k2,k3⟩
 ·rw[c_ hp];nofun;show dy G (RU dz aL dZ) _ M2 _ _ _ _;exact Gi hO hD hV Dq h2 wn Vh Vi (by decide) (λx h=>by cases h) Vp λf M' k1 k2 k3=>⟨f,rfl,k1,k2,k3⟩
structure Nm where
 s:Nat
 c:Str
 a:Nat
 sd:List (Nat×Str)
 w:Option Str
structure Nf where
 ru:List (Nat×List Nm)
 ro:List (Nat×Nat×Str)
def qJ(p:Nat×Str):D:=.tup [iN p.1,.str p.2]
def jD(y:Nm):D:=.tup [iN y.s,.str y.c,iN y.a,.tup (y.sd.map qJ),v_ y.w]
noncomputable def mV(r:Nat×List Nm):D:=.tup [iN r.1,.tup (r.2.map jD)]
noncomputable def wb(r:Nat×Nat×Str):D:=.tup [iN r.1,iN r.2.1,.str r.2.2]
def jb(f:Nf):D:=.tup [.tup (f.ru.map mV),.tup (f.ro.map wb)]
def wq:Option Str->Str
 | none => "-"
 | some x=>x
def mW(p:Nat×Str):Str:=gv p.1++ch 58++p.2
def Aq(c:Str):Prop:=c = "own" \/ AY c
structure lP (y:Nm):Prop where
 s:y.s<10 ^ 9
 c:Aq y.c
 a:y.a<10 ^ 9
 l:y.sd.length<=3
 sd:∀p∈y.sd,p.1<10 ^ 9/\AY p.2
 w:si y.w
noncomputable def Ar(r:Nat×Nat×Str):Prop:=r.1<10 ^ 9/\r.2.1<10 ^ 9/\(r.2.2 = "row" \/ r.2.2 = "heap")
structure fJ (f:Nf):Prop where
 l1:1<=f.ru.length
 l4:f.ru.length<=4
 l8:f.ro.length<=8
 ru:∀r∈f.ru,r.1<10 ^ 9/\r.2.length<=28/\∀y∈r.2,lP y
 ro:∀r∈f.ro,Ar r
inductive Ln where
 | ma (n:Nat) | mv (y:Nm) | rd (r:Nat×Nat×Str)
def Ln.ok:Ln->Prop
 | .ma n=>n<10 ^ 9
 | .mv y=>lP y
 | .rd r=>Ar r
noncomputable def Ln.nm:Ln->Str
 | .ma _ => "machine"
 | .mv _ => "move"
 | .rd _ => "road"
noncomputable def Ln.ws:Ln->List Str
 | .ma n=>[gv n]
 | .mv y=>gv y.s::y.c::gv y.a::wq y.w::y.sd.map mW
 | .rd r=>[gv r.1,gv r.2.1,r.2.2]
def Ln.tx(l:Ln):Str:=Str.join (ch 32) (l.nm::l.ws)
def Ln.vs:Ln->List D
 | .ma n=>[iN n]
 | .mv y=>iN y.s::.str y.c::iN y.a::v_ y.w::y.sd.map qJ
 | .rd r=>[iN r.1,iN r.2.1,.str r.2.2]
def sD(r:Nat×List Nm):List Ln:=.ma r.1::r.2.map .mv
def cy(f:Nf):List Ln:=f.ru.flatMap sD++f.ro.map .rd
def gV(l:Ln):D:=.str l.tx
theorem Du{c:Str}(h:AY c):∃n,c=ch n/\97<=n/\n<=122:=by
 rcases h with rfl | rfl | rfl | rfl
 ·exact⟨97,rfl,by decide,by decide⟩
 ·exact⟨98,rfl,by decide,by decide⟩
 ·exact⟨99,rfl,by decide,by decide⟩
 ·exact⟨122,rfl,by decide,by decide⟩
theorem fK{c:Str}(h:AY c):gw c/\c.length<=8/\32∉c.cps.toList/\58∉c.cps.toList:=by
 obtain⟨n,rfl,h1,h2⟩:=Du h;exact⟨gw.one ∅,show 1<=8 by decide,iV ∅,iV ∅⟩
noncomputable def oD(s:Str):Bool:=s.cps.toList.all λc=>decide (97<=c)&&decide (c<=122)
theorem j8{s:Str}(h:oD s=true):∀c∈s.cps.toList,97<=c/\c<=122:=by
 unfold oD at h;rw[jN]at h;exact λc hc=>by simpa using h c hc
theorem eS{s:Str}(h:∀c∈s.cps.toList,97<=c/\c<=122):gw s/\32∉s.cps.toList/\58∉s.cps.toList:=⟨λc hc=>by have:=h c hc;omega,λm=>by have:=h _ m;omega,λm=>by have:=h _ m;omega⟩
theorem sE{w:Option Str}(h:si w){x:Str}(e:w=some x):(∀c∈x.cps.toList,97<=c/\c<=122)/\1<=x.length/\x.length<=8:=by
 have k:oD x=true/\1<=x.length/\x.length<=8:=by
  rcases h x e with rfl | rfl | rfl | rfl | rfl | rfl | rfl | rfl | rfl | rfl<;>exact⟨⋯,⋯,⋯⟩
 exact⟨j8 k.1,k.2⟩
theorem KI{w:Option Str}(h:si w):gw (wq w)/\(wq w).length<=8/\32∉(wq w).cps.toList:=by
 cases e:w with
 | none=>exact⟨gw.one (c:=45) (by decide),show 1<=8 by decide,iV (c:=45) (by decide)⟩
 | some x =>
  obtain⟨a,_,b⟩:=sE h e;exact⟨(eS a).1,b,(eS a).2.1⟩
theorem uu{c:Str}(h:Aq c):gw c/\c.length<=8/\32∉c.cps.toList:=by
 rcases h with rfl | h
 ·have a:=eS (j8 (show oD "own" = true by decide +kernel));exact⟨a.1,⋯,a.2.1⟩
 ·obtain⟨a,b,c,_⟩:=fK h;exact⟨a,b,c⟩
theorem KJ{p:Nat×Str}(h:p.1<10 ^ 9/\AY p.2):gw (mW p)/\(mW p).length<=18/\32∉(mW p).cps.toList:=by
 have h1:=eR (k:=9) h.1 (by decide);obtain⟨a,b,c,_⟩:=fK h.2;refine⟨((oy _).app (gw.one (by decide))).app a,?_,qq (qq (lK (by decide)) (iV (by decide))) c⟩;unfold mW;rw[oR,oR];show _+1+_<=18;omega
theorem sF{k:Str} (h:k = "row" \/ k = "heap"):gw k/\k.length<=8/\32∉k.cps.toList:=by
 have:oD k=true/\k.length<=8:=by rcases h with rfl | rfl<;>exact⟨⋯,⋯⟩
 have a:=eS (j8 this.1);exact⟨a.1,this.2,a.2.1⟩
theorem Ln.jE(l:Ln):gw l.nm/\l.nm.length<=8/\32∉l.nm.cps.toList:=by
 have:oD l.nm=true/\l.nm.length<=8:=by
  cases l
  ·exact⟨show oD "machine" = true by decide +kernel,show("machine" : Str).length<=8 by decide +kernel⟩
  ·exact⟨show oD "move" = true by decide +kernel,show("move" : Str).length<=8 by decide +kernel⟩
  ·exact⟨show oD "road" = true by decide +kernel,show("road" : Str).length<=8 by decide +kernel⟩
 have a:=eS (j8 this.1);exact⟨a.1,this.2,a.2.1⟩
theorem Ln.lQ{l:Ln}(h:l.ok):l.ws.length<=7/\∀w∈l.ws,gw w/\w.length<=18/\32∉w.cps.toList:=by
 have nu:∀n,n<10 ^ 9->gw (gv n)/\(gv n).length<=18/\32∉(gv n).cps.toList:=λn hn=>⟨oy n,fh (eR (k:=9) hn (by decide)) (by decide),lK (by decide)⟩;have up:∀{w:Str},(gw w/\w.length<=8/\32∉w.cps.toList)->gw w/\w.length<=18/\32∉w.cps.toList:=λ⟨a,b,c⟩=>⟨a,∅,c⟩
 cases l with
 | ma n =>
  refine⟨show 1<=7 by decide,λw m=>?_⟩;rw[gG.mp m];exact nu n h
 | mv y =>
  have h:lP y:=h;refine⟨?_,λw m=>?_⟩
  ·show(y.sd.map mW).length+1+1+1+1<=7;rw[aR];have:=h.l;omega
  ·rcases bw.mp m with z | m
   ·rw[z];exact nu _ h.s
   rcases bw.mp m with z | m
   ·rw[z];exact up (uu h.c)
   rcases bw.mp m with z | m
   ·rw[z];exact nu _ h.a
   rcases bw.mp m with z | m
   ·rw[z];exact up (KI h.w)
   ·obtain⟨p,hp,rfl⟩:=dR.mp m;exact KJ (h.sd p hp)
 | rd r =>
  have h:Ar r:=h;refine⟨show 3<=7 by decide,λw m=>?_⟩;rcases bw.mp m with z | m
  ·rw[z];exact nu _ h.1
  rcases bw.mp m with z | m
  ·rw[z];exact nu _ h.2.1
  ·rw[gG.mp m];exact up (sF h.2.2)
theorem Ln.asc{l:Ln}(h:l.ok):gw l.tx:=gw.join (by decide) λx m=>by
 rcases bw.mp m with z | z
 ·rw[z];exact l.jE.1
 ·exact((Ln.lQ h).2 x z).1
theorem Ln.sum{l:Ln}(h:l.ok):((l.nm::l.ws).map (·.length)).sum+(l.nm::l.ws).length<=200:=by
 have h1:=l.jE.2.1;obtain⟨h2,h3⟩:=Ln.lQ h;have:=Kl (xs:=l.ws) (k:=18) λw m=>(h3 w m).2.1;rw[d_,wJ,eJ];omega
theorem oE{f:Nf}(h:fJ f):∀l∈cy f,l.ok:=λl m=>by
 rcases fN.mp m with m | m
 ·obtain⟨r,hr,m⟩:=List.mem_flatMap.mp m;obtain⟨a,_,b⟩:=h.ru r hr;rcases bw.mp m with z | m
  ·rw[z];exact a
  ·obtain⟨y,hy,rfl⟩:=dR.mp m;exact b y hy
 ·obtain⟨r,hr,rfl⟩:=dR.mp m;exact h.ro r hr
def KL(F:Fn):Prop:=∀(M:af)(c:Nat),97<=c->c<=122->aQ (F [.str (ch c)] M) λr M'=>r=.d (.bl true)/\Ex M M'
theorem As{a b:Nat}(h:b<=a):decide ((ch a).cps.toList<(ch b).cps.toList)=false:=by
 refine c_ ?_;show ¬ [a] < [b];rw[List.cons_lt_cons_iff];rintro(z | ⟨_,z⟩)
 ·omega
 ·exact List.not_lt_nil _ z
theorem Vs{G:bo}:KL (ah G 1 uf):=by
 intro M c h1 h2;rw[bO];show dy G uf [some (.str (ch c))] M _ _ _ _
 have a1:(!decide ((ch c).cps.toList<(Str.ofString "a").cps.toList))=true:=by
  rw[show(Str.ofString "a")=ch 97 from rfl,As h1];rfl
 have a2:(!decide ((Str.ofString "z").cps.toList<(ch c).cps.toList))=true:=by
  rw[show(Str.ofString "z")=ch 122 from rfl,As h2];rfl
 nofun;rw[a1];nofun;rw[a2];nofun;exact⟨rfl,Ex.refl M⟩
theorem KM{M:af}{x:Str}(h:∀c∈x.cps.toList,97<=c/\c<=122)(h1:1<=x.length):bD .eq (.d (.str x)) (.d (.str "-")) M=.ok false M:=by
 rw[lE (eS h).1.so ⋯]
 have:(x == "-")=false:=m7.mpr λz=>by
  subst z;have:=h 45 ⋯;omega
 rw[this]
def Vt(F:Fn):Prop:=∀(M:af)(x:Str),(∀c∈x.cps.toList,97<=c/\c<=122)->1<=x.length->x.length<=8->aQ (F [.str x] M) λr M'=>r=.d (.bl true)/\Ex M M'
theorem Zx{G:bo}{k:Nat}(hL:KL (G k)):Vt (ah G 1 (Kn k)):=by
 intro M x hx h1 h8;rw[bO];show dy G (Kn k) [some (.str x)] M _ _ _ _;unfold Kn;nofun;rw[qr (ae ∅)];nofun;rw[dE (show(1:Int)<=(x.length:Nat) by omega)];nofun;rw[dE (show((x.length:Nat):Int)<=8 by omega)];nofun;rw[qt (eS hx).1.all];nofun;refine zW (ds:=iB x) (λ_=>some (.bl true)) (by decide) lG (ae (by rw[qu];omega)) ?_ ?_ rfl
 ·intro i M' d hd g;obtain⟨c,rfl,hc⟩:=uj (cT hd);nofun;refine(hL M' c (hx c hc).1 (hx c hc).2).imp ?_;rintro r M2 ⟨rfl,g2⟩;nofun;exact⟨rfl,g.trans g2⟩
 ·intro M' g;nofun;rw[oA (λd hd=>by rw[uh,dR]at hd;obtain⟨_,_,rfl⟩:=hd;rfl)];exact⟨rfl,g⟩
def KN(F:Fn):Prop:=∀w,si w->AX F (wq w) (v_ w)
theorem Vu{G:bo}{k:Nat}(hW:Vt (G k)):KN (ah G 1 (Ad k)):=by
 intro w hw M;rw[bO];show dy G (Ad k) [some (.str (wq w))] M _ _ _ _;unfold Ad;nofun
 cases e:w with
 | none =>
  rw[show wq none = "-" from rfl,lE ⋯ ⋯,jc];exact⟨rfl,Ex.refl M⟩
 | some x =>
  obtain⟨a,b,c⟩:=sE hw e;rw[show wq (some x)=x from rfl,KM a b];nofun;refine(hW M x a b c).imp ?_;rintro r M' ⟨rfl,g⟩;nofun;exact⟨rfl,g⟩
theorem KO{M:af}{c:Str}(h:AY c):bD .eq (.d (.str c)) (.d (.str "own")) M=.ok false M:=by
 rw[lE (fK h).1.so ⋯];rcases h with rfl | rfl | rfl | rfl
 ·rw[show(("a" : Str) == "own")=false by decide +kernel]
 ·rw[show(("b" : Str) == "own")=false by decide +kernel]
 ·rw[show(("c" : Str) == "own")=false by decide +kernel]
 ·rw[show(("z" : Str) == "own")=false by decide +kernel]
def KP(F:Fn):Prop:=∀c,Aq c->AX F c (.str c)
theorem Vv{G:bo}{k:Nat}(hS:Dk (G k)):KP (ah G 1 (Ac k)):=by
 intro c hc M;rw[bO];show dy G (Ac k) [some (.str c)] M _ _ _ _;unfold Ac;nofun;rcases hc with rfl | hc
 ·rw[lE ⋯ ⋯,jc];exact⟨rfl,Ex.refl M⟩
 ·rw[KO hc];exact hS c hc M
theorem uv{M:af}{x:Str}{ys:List Str}(h:x∈ys)(k:∀y∈ys,PyData.strOk y=true):bD .fj (.d (.str x)) (.d (.tup (ys.map D.str))) M=.ok false M:=by
 have h1:jZ M (.d (.str x))=some (.str x):=rV
 have h2:∀ys:List Str,cw M 30 (ys.map D.str)=some (ys.map PyData.str):=λys=>by
  induction ys with
  | nil=>unfold cw;rfl
  | cons y ys ih=>rw[d_];unfold cw;rw[ih];unfold eG;rfl
 have h3:(ys.map PyData.str).all SeqAt.shaped=true:=by
  rw[jN];intro p hp;obtain⟨y,hy,rfl⟩:=dR.mp hp;exact jC (k y hy)
 have h4:pJ (.str x) (ys.map PyData.str)=true:=by
  clear h1 h2 h3 k
  induction ys with
  | nil=>cases h
  | cons y ys ih =>
   show(PyData.eqv (.str y) (.str x)||pJ (.str x) (ys.map PyData.str))=true;rcases bw.mp h with z | z
   ·rw[z,ou,jc];rfl
   ·rw[ih z,Bool.or_true]
 unfold bD;simp only[h1,show b_ M (.d (.tup (ys.map D.str)))=some (false,ys.map D.str) from rfl,h2,h3,h4,jC (k x h),nc,fO];rfl
def KQ(F:Fn):Prop:=∀k:Str,(k = "row" \/ k = "heap")->AX F k (.str k)
theorem Vw{G:bo}:KQ (ah G 1 Ae):=by
 intro k hk M;rw[bO];show dy G Ae [some (.str k)] M _ _ _ _;unfold Ae;nofun;refine⟨ae (bj rfl),?_⟩;nofun;rw[show [D.str "row",.str "heap"]=(["row","heap"]:List Str).map D.str from rfl,uv (by rcases hk with rfl | rfl<;>simp) (by intro y hy;simp only[bw,fM,dH]at hy;rcases hy with rfl | rfl<;>decide +kernel)];exact⟨rfl,Ex.refl M⟩
def KR(F:Fn):Prop:=∀p:Nat×Str,p.1<10 ^ 9->AY p.2->AX F (mW p) (qJ p)
theorem Vx{G Gv:bo}{Af:Nat}{aN aS:Addr}{i1 i2:Nat}{tv:List (Addr×Nat)}(hP:z_ Gv tv (G Af))(t1:tv.lookup aN=some i1)(t2:tv.lookup aS=some i2)(h1:Dj 9 (Gv i1))(h2:Dk (Gv i2)):KR (ah G 1 (Ga Af aN aS)):=by
 intro p hp hc M;rw[bO];show dy G (Ga Af aN aS) [some (.str (mW p))] M _ _ _ _;nofun;have l1:=eR (k:=9) hp (by decide);obtain⟨_,b,_,d⟩:=fK hc;exact hP M 58 (gv p.1) p.2 aN aS i1 i2 _ _ (lK (by decide)) d (by decide) ∅ t1 t2 (h1 _ hp) (h2 _ hc)
noncomputable def R1(y:Nm):List Wp:=[.qI "move",.num y.s,.qI y.c,.num y.a,.qI (wq y.w)]
theorem KS{y:Nm}(h:lP y):∀w∈R1 y++y.sd.map λp=>Wp.qI (mW p),w.ok:=λw m=>by
 rcases fN.mp m with m | m
 ·unfold R1 at m;simp only[bw,fM,dH]at m;rcases m with rfl | rfl | rfl | rfl | rfl
  ·trivial
  ·exact kg h.s (by decide)
  ·trivial
  ·exact kg h.a (by decide)
  ·trivial
 ·obtain⟨p,_,rfl⟩:=dR.mp m;trivial
theorem Q1(y:Nm):(R1 y++y.sd.map λp=>Wp.qI (mW p)).map Wp.t=(Ln.mv y).nm::(Ln.mv y).ws:=by
 rw[fA,kh];rfl
theorem oF{F:Fn} (hB:AW " " F) {M:af} {l:Ln} {x:D} {ps:List Wp} (hd:l.ok) (hp:ps.map Wp.t=l.nm::l.ws) (bY:∀w∈ps,w.ok) (hx:QC M x (ps.map Wp.d)):aQ (F [x] M) λr M'=>r=.d (gV l)/\Ex M M':=by
 have hl:ps.length=(l.nm::l.ws).length:=by rw[<- hp,aR]
 have h5:=(Ln.lQ hd).1;have hs:=Ln.sum hd;refine(hB M x ps hx bY (by rw[hl,eJ];omega) ?_).imp λr M' ⟨e,g⟩=>⟨by rw[e,hp];rfl,g⟩;rw[hp,hl];show _+_*1<=1000;omega
def wc(F:Fn):Prop:=∀(M:af)(sd:List (Nat×Str)),sd.length<=3->(∀p∈sd,p.1<10 ^ 9/\AY p.2)->aQ (F [.tup (sd.map qJ)] M) λr M'=>r=.lv (sd.map λp=>D.str (mW p))/\M'=M
theorem Vy{G:bo}{k:Nat} (hP:US ":" (G k)):wc (ah G 3 (Aa k)):=by
 intro M sd h3 Kz;rw[bO];show dy G (Aa k) [some (.tup (sd.map qJ)),none,none] M _ _ _ _;unfold Aa;nofun;refine iT (ds:=sd.map qJ) (λi M' aA=>M'=M/\aA=(sd.take i).map λp=>D.str (mW p)) (by decide) (λi M' aA h hi=>rfl) ⟨rfl,rfl⟩ ?_ ?_ rfl
 ·rintro i M' aA d hd ⟨rfl,rfl⟩;rw[ff]at hd
  cases hp:sd[i]? with
  | none=>rw[hp]at hd;cases hd
  | some p =>
   rw[hp]at hd;cases hd;obtain⟨a,b⟩:=Kz p (cT hp);refine⟨aP (by rw[aR,fT];omega),?_⟩;nofun;have l1:=eR (k:=9) a (by decide);obtain⟨_,b8,_⟩:=fK b;refine(hP M' (.num p.1) (.qI p.2) (kg a (by decide)) trivial (show(gv p.1).length+1+p.2.length<=1000 by omega)).imp ?_;rintro r M2 ⟨rfl,rfl⟩;nofun;exact⟨rfl,by rw[bJ hp,fA];rfl⟩
 ·rintro M' aA ⟨rfl,rfl⟩;rw[aR,fy];exact⟨rfl,rfl⟩
def KU(F:Fn):Prop:=∀(M:af)(y:Nm),lP y->aQ (F [jD y] M) λr M'=>r=.d (gV (.mv y))/\Ex M M'
theorem uw{F:Fn} (hB:AW " " F) {M:af} {n:Nat} {y:Nm} (h:lP y) (hn:M[n]?=some (.lst ([D.str "move",iN y.s,.str y.c,iN y.a,.str (wq y.w)]++y.sd.map λp=>D.str (mW p)))):aQ (F [.aB n] M) λr M'=>r=.d (gV (.mv y))/\Ex M M' :=
 oF hB (l:=.mv y) (ps:=R1 y++y.sd.map λp=>Wp.qI (mW p)) h (Q1 y) (KS h) (.inr ⟨n,rfl,by rw[fA,kh];exact hn⟩)
theorem Vz{G:bo}{kB kP:Nat} (hB:AW " " (G kB)) (hP:wc (G kP)):KU (ah G 2 (Ab kB kP)):=by
 intro M y h;rw[bO];show dy G (Ab kB kP) [some (jD y),none] M _ _ _ _;have h3:=h.l
 have tail:dy G [.ret (.call kB [(.bin .add (.lst [(.a8 (.str "move")),(.sub (.eZ 0) (.a8 (.int 0))),(.sub (.eZ 0) (.a8 (.int 1))),(.sub (.eZ 0) (.a8 (.int 2))),(.eZ 1)]) (.call kP [(.sub (.eZ 0) (.a8 (.int 3)))]))])] [some (jD y),some (.str (wq y.w))] M (λ_ M'=>W.d D.ba=.d (gV (.mv y))/\Ex M M') (λr M'=>r=.d (gV (.mv y))/\Ex M M') (λ_ _=>False) (λ_ _=>False):=by
  unfold jD;nofun;refine⟨ae (bj rfl),?_⟩;nofun;refine(hP M y.sd h.l h.sd).imp ?_;rintro r M1 ⟨rfl,rfl⟩;nofun;refine⟨ae (by show 5+(y.sd.map λp=>D.str (mW p)).length<=1000;rw[aR];omega),?_⟩;nofun;exact(uw hB h a9).imp λr M2 ⟨e,g⟩=>⟨e,Ex.trans (Ex.refl M1).app g⟩
 unfold Ab;unfold jD;nofun
 cases hw:y.w with
 | none=>rw[hw]at tail;nofun;exact tail
 | some x=>rw[hw]at tail;nofun;exact tail
theorem sG{a b:Str}{M:af}(h:a.length+b.length<=1000):rE (.d (.str a)) (.d (.str b)) M=.ok (.d (.str (a++b))) M:=by
 unfold rE;exact aG (ae h)
theorem ux{M:af}{n:Nat}(h:n<10 ^ 10):ja .str1 [.d (.int (n:Nat))] M=.ok (.d (.str (gv n))) M:=ug (w:=.num n) h
def Gj(F:Fn):Prop:=∀(M:af)(f:Nf),fJ f->aQ (F [jb f] M) λr M'=>∃n,r=.d (.aB n)/\M'[n]?=some (.lst ((cy f).map gV))/\M.length<=n/\Ex M M'
theorem qz:∀{l:List (Nat×List Nm)},(∀r∈l,r.2.length<=28)->(l.flatMap sD).length<=29*l.length
 | [],_=>a7 _
 | r::l,h=>by
  have h1:=h r cG;have h2:=qz (l:=l) λq m=>h q (cZ _ m);have h3:(sD r).length=r.2.length+1:=by unfold sD;rw[eJ,aR]
  rw[GD,cz,eJ,h3];omega
theorem fJ.fl{f:Nf}(h:fJ f)(i:Nat):((f.ru.take i).flatMap sD).length<=116:=by
 have h1:=qz (l:=f.ru.take i) λr m=>(h.ru r (List.mem_of_mem_take m)).2.1;have h2:=h.l4;rw[fT]at h1;omega
noncomputable def fS(f:Nf)(i:Nat)(r:Nat×List Nm)(j:Nat):List Ln:=(f.ru.take i).flatMap sD++.ma r.1::(r.2.take j).map .mv
theorem qA{f:Nf}(h:fJ f){i:Nat}{r:Nat×List Nm}(hr:r.2.length<=28)(j:Nat):(fS f i r j).length<=145:=by
 have:=h.fl i;unfold fS;rw[cz,eJ,aR,fT];omega
theorem qB{f:Nf}{i:Nat}{r:Nat×List Nm}(hr:f.ru[i]?=some r):fS f i r r.2.length=(f.ru.take (i+1)).flatMap sD:=by
 rw[bJ hr,List.flatMap_append];unfold fS;rw[fy,GD,List.flatMap_nil,lU];rfl
theorem mX{f:Nf}{i:Nat}{r:Nat×List Nm}{j:Nat}{y:Nm}(hy:r.2[j]?=some y):fS f i r j++[.mv y]=fS f i r (j+1):=by
 unfold fS;rw[bJ hy,fA,jM];rfl
theorem Au{f:Nf}{i:Nat}{r:Nat×List Nm}:(f.ru.take i).flatMap sD++[.ma r.1]=fS f i r 0:=rfl
theorem map_one{l:List Ln}{x:Ln}:l.map gV++[gV x]=(l++[x]).map gV:=by rw[fA];rfl
theorem cN{α:Type}{g:α->D}{l:List α}{i:Nat}{d:D}(h:(l.map g)[i]?=some d):∃a,l[i]?=some a/\d=g a:=by
 rw[ff]at h
 cases e:l[i]? with
 | none=>rw[e]at h;cases h
 | some a=>rw[e]at h;cases h;exact⟨a,rfl,rfl⟩
noncomputable def iX(f:Nf)(i:Nat):List Ln:=f.ru.flatMap sD++(f.ro.take i).map .rd
theorem lR{f:Nf}(h:fJ f)(i:Nat):(iX f i).length<=124:=by
 have:=h.fl f.ru.length;rw[fy]at this;have h8:=h.l8;unfold iX;rw[cz,aR,fT];omega
theorem mY{f:Nf}{i:Nat}{r:Nat×Nat×Str}(h:f.ro[i]?=some r):iX f i++[.rd r]=iX f (i+1):=by
 unfold iX;rw[bJ h,fA,jM];rfl
theorem Dv{F:Fn} (hB:AW " " F) {M:af} {n k:Nat} (h:k<10 ^ 9) (hn:M[n]?=some (.lst [.str "machine",iN k])):aQ (F [.aB n] M) λr M'=>r=.d (gV (.ma k))/\Ex M M' :=
 oF hB (l:=.ma k) (ps:=[.qI "machine",.num k]) h rfl (λw m=>by
  simp only[bw,fM,dH]at m;rcases m with rfl | rfl
  ·trivial
  ·exact kg h (by decide)) (.inr ⟨n,rfl,hn⟩)
theorem uy{F:Fn} (hB:AW " " F) {M:af} {n:Nat} {r:Nat×Nat×Str} (h:Ar r) (hn:M[n]?=some (.lst [.str "road",iN r.1,iN r.2.1,.str r.2.2])):aQ (F [.aB n] M) λr' M'=>r'=.d (gV (.rd r))/\Ex M M' :=
 oF hB (l:=.rd r) (ps:=[.qI "road",.num r.1,.num r.2.1,.qI r.2.2]) h rfl (λw m=>by
  simp only[bw,fM,dH]at m;rcases m with rfl | rfl | rfl | rfl
  ·trivial
  ·exact kg h.1 (by decide)
  ·exact kg h.2.1 (by decide)
  ·trivial) (.inr ⟨n,rfl,hn⟩)
theorem Zy{G:bo}{kB kV:Nat} (hB:AW " " (G kB)) (hV:KU (G kV)):Gj (ah G 8 (Ko kB kV)):=by
 intro M f hf;rw[bO];show dy G (Ko kB kV) [some (jb f),none,none,none,none,none,none,none] M _ _ _ _;unfold Ko;nofun;refine⟨ae (bj rfl),?_⟩;have v0:(M++[.lst []])[M.length]?=some (.lst []):=a9;have f0:Ex M (M++[.lst []]):=(Ex.refl M).app;nofun;generalize hv:M.length=v at v0;have rQ:M.length<=v:=∅;generalize M++[.lst []]=M0 at v0 f0;unfold jb;nofun;refine gu (ds:=f.ru.map mV) (λi ρ M'=>∃o2 o3 o4,ρ=[some (jb f),some (.aB v),o2,o3,o4,none,none,none]/\M'[v]?=some (.lst (((f.ru.take i).flatMap sD).map gV))/\Ex M M') ⟨_,_,_,rfl,v0,f0⟩ ?_ ?_
 ·intro J nx rt up;rintro i ρ M1 d hd ⟨o2,o3,o4,rfl,v1,f1⟩;obtain⟨r,hr,rfl⟩:=cN hd;obtain⟨r9,Q2,rm⟩:=hf.ru r (cT hr);unfold mV;nofun;refine⟨bA v1,?_⟩;nofun;refine⟨ae (bj rfl),?_⟩;nofun;refine(Dv hB r9 a9).imp ?_;rintro x M2 ⟨rfl,g⟩;have g2:=Ex.trans (Ex.refl M1).app g;have v2:=Ex.get g2 v1;nofun;rw[bP v2 (aP (by have:=hf.fl i;rw[aR];omega)),map_one,Au];have v3:(M2.set v (.lst ((fS f i r 0).map gV)))[v]?=some (.lst ((fS f i r 0).map gV)):=bb v2;have f3:Ex M (M2.set v (.lst ((fS f i r 0).map gV))):=(Ex.trans f1 g2).set rQ;generalize M2.set v (.lst ((fS f i r 0).map gV))=M3 at v3 f3;nofun;refine iR (ds:=r.2.map jD) (λj ρ M'=>∃o4,ρ=[some (jb f),some (.aB v),some (iN r.1),some (.tup (r.2.map jD)),o4,none,none,none]/\M'[v]?=some (.lst ((fS f i r j).map gV))/\Ex M M') ⟨_,rfl,v3,f3⟩ ?_ ?_
  ·rintro j ρ M4 d hd ⟨o4,rfl,v4,f4⟩;obtain⟨y,hy,rfl⟩:=cN hd;nofun;refine⟨bA v4,?_⟩;nofun;refine(hV M4 y (rm y (cT hy))).imp ?_;rintro x M5 ⟨rfl,g⟩;have v5:=Ex.get g v4;nofun;rw[bP v5 (aP (by have:=qA hf (i:=i) Q2 j;rw[aR];omega)),map_one,mX hy];exact⟨_,rfl,bb v5,(Ex.trans f4 g).set rQ⟩
  ·rintro ρ M4 ⟨o4,rfl,v4,f4⟩;rw[aR,qB hr]at v4;exact up _ _ _ ⟨_,_,_,rfl,v4,f4⟩
 ·rintro ρ M1 ⟨o2,o3,o4,rfl,v1,f1⟩;rw[aR,fy]at v1;have v1:M1[v]?=some (.lst ((iX f 0).map gV)):=by rw[v1];unfold iX;rw[List.take_zero,m_,lU]
  unfold jb;nofun;refine iR (ds:=f.ro.map wb) (λi ρ M'=>∃o5 o6 o7,ρ=[some (jb f),some (.aB v),o2,o3,o4,o5,o6,o7]/\M'[v]?=some (.lst ((iX f i).map gV))/\Ex M M') ⟨_,_,_,rfl,v1,f1⟩ ?_ ?_
  ·rintro i ρ M2 d hd ⟨o5,o6,o7,rfl,v2,f2⟩;obtain⟨r,hr,rfl⟩:=cN hd;unfold wb;nofun;refine⟨bA v2,?_⟩;nofun;refine⟨ae (bj rfl),?_⟩;nofun;refine(uy hB (hf.ro r (cT hr)) a9).imp ?_;rintro x M3 ⟨rfl,g⟩;have g3:=Ex.trans (Ex.refl M2).app g;have v3:=Ex.get g3 v2;nofun;rw[bP v3 (aP (by have:=lR hf i;rw[aR];omega)),map_one,mY hr];exact⟨_,_,_,rfl,bb v3,(Ex.trans f2 g3).set rQ⟩
  ·rintro ρ M2 ⟨o5,o6,o7,rfl,v2,f2⟩;nofun;refine⟨_,rfl,?_,a7 _,f2⟩;rw[v2,aR];unfold iX cy;rw[fy]
theorem VA{G:bo}:wc (ah G 3 Ai):=by
 intro M sd h3 Kz;rw[bO];show dy G Ai [some (.tup (sd.map qJ)),none,none] M _ _ _ _;unfold Ai;nofun;refine iT (ds:=sd.map qJ) (λi M' aA=>M'=M/\aA=(sd.take i).map λp=>D.str (mW p)) (by decide) (λi M' aA h hi=>rfl) ⟨rfl,rfl⟩ ?_ ?_ rfl
 ·rintro i M' aA d hd ⟨rfl,rfl⟩;obtain⟨p,hp,rfl⟩:=cN hd;obtain⟨a,b⟩:=Kz p (cT hp);refine⟨aP (by rw[aR,fT];omega),?_⟩;unfold qJ;have l1:=eR (k:=9) a (by decide);obtain⟨_,b8,_⟩:=fK b;have l4:(ch 58).length=1:=rfl;nofun;rw[ux (kg a (by decide))];nofun;rw[UU,sG ∅];nofun;rw[sG (by rw[oR];omega)];exact⟨rfl,by rw[bJ hp,fA];rfl⟩
 ·rintro M' aA ⟨rfl,rfl⟩;rw[aR,fy];exact⟨rfl,rfl⟩
theorem Dw:("machine " : Str) = "machine" ++ ch 32:=⋯
theorem VB{G:bo}{kB kS:Nat} (hB:AW " " (G kB)) (hS:wc (G kS)):Gj (ah G 13 (Aj kB kS)):=by
 intro M f hf;rw[bO];show dy G (Aj kB kS) [some (jb f),none,none,none,none,none,none,none,none,none,none,none,none] M _ _ _ _;unfold Aj;nofun;refine⟨ae (bj rfl),?_⟩;have v0:(M++[.lst []])[M.length]?=some (.lst []):=a9;have f0:Ex M (M++[.lst []]):=(Ex.refl M).app;nofun;generalize hv:M.length=v at v0;have rQ:M.length<=v:=∅;generalize M++[.lst []]=M0 at v0 f0;unfold jb;nofun;refine gu (ds:=f.ru.map mV) (λi ρ M'=>∃o2 o3 o4 o5 o6 o7 o8 o9,ρ=[some (jb f),some (.aB v),o2,o3,o4,o5,o6,o7,o8,o9,none,none,none]/\M'[v]?=some (.lst (((f.ru.take i).flatMap sD).map gV))/\Ex M M') ⟨_,_,_,_,_,_,_,_,rfl,v0,f0⟩ ?_ ?_
 ·intro J nx rt up;rintro i ρ M1 d hd ⟨o2,o3,o4,o5,o6,o7,o8,o9,rfl,v1,f1⟩;obtain⟨r,hr,rfl⟩:=cN hd;obtain⟨r9,Q2,rm⟩:=hf.ru r (cT hr);unfold mV;nofun;refine⟨bA v1,?_⟩;nofun;rw[ux (kg r9 (by decide))];nofun;have l1:=eR (k:=9) r9 (by decide);rw[sG (by rw[show("machine " : Str).length=8 from rfl];omega),show D.str ("machine " ++ gv r.1)=gV (.ma r.1) by rw[Dw];rfl];nofun;rw[bP v1 (aP (by have:=hf.fl i;rw[aR];omega)),map_one,Au];have v3:(M1.set v (.lst ((fS f i r 0).map gV)))[v]?=some (.lst ((fS f i r 0).map gV)):=bb v1;have f3:Ex M (M1.set v (.lst ((fS f i r 0).map gV))):=f1.set rQ;generalize M1.set v (.lst ((fS f i r 0).map gV))=M3 at v3 f3;nofun;refine gu (ds:=r.2.map jD) (λj ρ M'=>∃o4 o5 o6 o7 o8 o9,ρ=[some (jb f),some (.aB v),some (iN r.1),some (.tup (r.2.map jD)),o4,o5,o6,o7,o8,o9,none,none,none]/\M'[v]?=some (.lst ((fS f i r j).map gV))/\Ex M M') ⟨_,_,_,_,_,_,rfl,v3,f3⟩ ?_ ?_
  ·intro J2 WW WX Vk;rintro j ρ M4 d hd ⟨o4,o5,o6,o7,o8,o9,rfl,v4,f4⟩;obtain⟨y,hy,rfl⟩:=cN hd;have R3:=rm y (cT hy);have h3:=R3.l
   have tail:dy G [.expr (.me .append (.eZ 1) [(.call kB [(.bin .add (.lst [(.a8 (.str "move")),(.eZ 4),(.eZ 5),(.eZ 6),(.eZ 9)]) (.call kS [(.eZ 7)]))])])] [some (jb f),some (.aB v),some (iN r.1),some (.tup (r.2.map jD)),some (iN y.s),some (.str y.c),some (iN y.a),some (.tup (y.sd.map qJ)),some (v_ y.w),some (.str (wq y.w)),none,none,none] M4 (J2 (j+1)) WX WW (J2 (j+1)):=by
    nofun;refine⟨bA v4,?_⟩;nofun;refine⟨ae (bj rfl),?_⟩;nofun;refine(hS M4 y.sd R3.l R3.sd).imp ?_;rintro x M5 ⟨rfl,rfl⟩;nofun;refine⟨ae (by show 5+(y.sd.map λp=>D.str (mW p)).length<=1000;rw[aR];omega),?_⟩;nofun;refine(uw hB R3 a9).imp ?_;rintro x M6 ⟨rfl,g⟩;have g:=Ex.trans (Ex.refl M5).app g;have v6:=Ex.get g v4;nofun;rw[bP v6 (aP (by have:=qA hf (i:=i) Q2 j;rw[aR];omega)),map_one,mX hy];exact Vk _ _ _ ⟨_,_,_,_,_,_,rfl,bb v6,(Ex.trans f4 g).set rQ⟩
   unfold jD;nofun
   cases hw:y.w with
   | none=>rw[hw]at tail;nofun;exact tail
   | some x=>rw[hw]at tail;nofun;exact tail
  ·rintro ρ M4 ⟨o4,o5,o6,o7,o8,o9,rfl,v4,f4⟩;rw[aR,qB hr]at v4;exact up _ _ _ ⟨_,_,_,_,_,_,_,_,rfl,v4,f4⟩
 ·rintro ρ M1 ⟨o2,o3,o4,o5,o6,o7,o8,o9,rfl,v1,f1⟩;rw[aR,fy]at v1;have v1:M1[v]?=some (.lst ((iX f 0).map gV)):=by rw[v1];unfold iX;rw[List.take_zero,m_,lU]
  unfold jb;nofun;refine iR (ds:=f.ro.map wb) (λi ρ M'=>∃sA sC VC,ρ=[some (jb f),some (.aB v),o2,o3,o4,o5,o6,o7,o8,o9,sA,sC,VC]/\M'[v]?=some (.lst ((iX f i).map gV))/\Ex M M') ⟨_,_,_,rfl,v1,f1⟩ ?_ ?_
  ·rintro i ρ M2 d hd ⟨sA,sC,VC,rfl,v2,f2⟩;obtain⟨r,hr,rfl⟩:=cN hd;unfold wb;nofun;refine⟨bA v2,?_⟩;nofun;refine⟨ae (bj rfl),?_⟩;nofun;refine(uy hB (hf.ro r (cT hr)) a9).imp ?_;rintro x M3 ⟨rfl,g⟩;have g3:=Ex.trans (Ex.refl M2).app g;have v3:=Ex.get g3 v2;nofun;rw[bP v3 (aP (by have:=lR hf i;rw[aR];omega)),map_one,mY hr];exact⟨_,_,_,rfl,bb v3,(Ex.trans f2 g3).set rQ⟩
  ·rintro ρ M2 ⟨sA,sC,VC,rfl,v2,f2⟩;nofun;refine⟨_,rfl,?_,a7 _,f2⟩;rw[v2,aR];unfold iX cy;rw[fy]
theorem qC{xs ys:List D}{i:Nat}{d:D}(h:(List.zipWith (λa b=>D.tup [a,b]) xs ys)[i]?=some d):∃x y,xs[i]?=some x/\ys[i]?=some y/\d=.tup [x,y]:=by
 rw[GA]at h
 cases e1:xs[i]? with
 | none=>rw[e1]at h;cases h
 | some x =>
  cases e2:ys[i]? with
  | none=>rw[e1,e2]at h;cases h
  | some y=>rw[e1,e2]at h;cases h;exact⟨x,y,rfl,rfl,rfl⟩
theorem Av{M:af}{a b:Nat}{xs ys:List D}(h1:M[a]?=some (.lst xs))(h2:M[b]?=some (.lst ys))(i:Nat):itemAt M i (.zip (.at a) (.at b))=some (List.zipWith (λa b=>D.tup [a,b]) xs ys)[i]?:=by
 unfold itemAt mf;simp only[h1,h2];show some (jH xs ys i)=_;unfold jH;rw[GA];cases xs[i]? <;> cases ys[i]? <;> rfl
theorem Dx{M:af}{xs ys:List D}(i:Nat):itemAt M i (.zip (.items xs) (.items ys))=some (List.zipWith (λa b=>D.tup [a,b]) xs ys)[i]?:=by
 show some (jH xs ys i)=_;unfold jH;rw[GA];cases xs[i]? <;> cases ys[i]? <;> rfl
theorem Q3{M:af}{a b:Nat}{xs ys:List D}(h1:M[a]?=some (.lst xs))(h2:M[b]?=some (.lst ys)):gf .zip [.d (.aB a),.d (.aB b)] M=.ok (.zip (.at a) (.at b)) M:=by
 unfold gf FE b_;simp only[h1,h2];rfl
theorem Dy{M:af}{a:Nat}{t:Ty}{xs:List D}(h:M[a]?=some (.lst xs)):ja (.i_ t) [.d (.aB a)] M=.ok (.d (.bl (decide (Ty.list=t)||(decide (Ty.list=.bool)&&decide (t=.int))))) M:=by
 unfold ja B_;simp only[h]
abbrev uz:=List (Nat×List Nm)×List (Nat×Nat×Str)
noncomputable def iY(ru:List (Nat×List Nm))(y:Nm):List (Nat×List Nm):=ru.modify (ru.length-1) λr=>(r.1,r.2++[y])
def dQ(s:uz):Ln->uz
 | .ma n=>(s.1++[(n,[])],s.2)
 | .mv y=>(iY s.1 y,s.2)
 | .rd r=>(s.1,s.2++[r])
noncomputable def KW(s:uz):Ln->Prop
 | .ma _=>s.2=[]
 | .mv _=>s.2=[]/\s.1≠[]
 | .rd _=>s.1≠[]
def Wf(s:uz):List Ln->Prop
 | []=>True
 | l::ls=>KW s l/\Wf (dQ s l) ls
theorem sH:∀{P Q:List Ln}{s:uz},Wf s P->Wf (P.foldl dQ s) Q->Wf s (P++Q)
 | [],_,_,_,h=>h
 | _::P,_,_,h,k=>⟨h.1,sH (P:=P) h.2 k⟩
theorem Gk:∀{L:List Ln}{s:uz}{i:Nat}{l:Ln},Wf s L->L[i]?=some l->KW ((L.take i).foldl dQ s) l
 | _::_,_,0,_,h,e=>by cases e;exact h.1
 | _::L,_,i+1,_,h,e=>Gk (L:=L) h.2 e
theorem we{ru:List (Nat×List Nm)}{n:Nat}{ms:List Nm}{y:Nm}:iY (ru++[(n,ms)]) y=ru++[(n,ms++[y])]:=by
 unfold iY;rw[cz,show ru.length+[(n,ms)].length-1=ru.length from rfl]
 induction ru with
 | nil=>rfl
 | cons r ru ih =>
  show List.modify (r::(ru++[(n,ms)])) (ru.length+1) _=_;rw[List.modify_succ_cons,ih];rfl
theorem Aw{ru:List (Nat×List Nm)}{n:Nat}:∀{ys ms:List Nm},Wf (ru++[(n,ms)],[]) (ys.map .mv)/\(ys.map Ln.mv).foldl dQ (ru++[(n,ms)],[])=(ru++[(n,ms++ys)],[])
 | [],ms=>⟨trivial,by rw[lU];rfl⟩
 | y::ys,ms=>by
  obtain⟨a,b⟩:=Aw (ru:=ru) (n:=n) (ys:=ys) (ms:=ms++[y])
  have e:dQ (ru++[(n,ms)],[]) (.mv y)=(ru++[(n,ms++[y])],[]):=by
   show(iY (ru++[(n,ms)]) y,_)=_;rw[we]
  rw[d_];refine⟨⟨⟨rfl,λz=>by simp at z⟩,?_⟩,?_⟩
  ·rw[e];exact a
  ·rw[Bn,e,b,jM];rfl
theorem Ax:∀{rs ru:List (Nat×List Nm)},Wf (ru,[]) (rs.flatMap sD)/\(rs.flatMap sD).foldl dQ (ru,[])=(ru++rs,[])
 | [],ru=>⟨trivial,by rw[lU];rfl⟩
 | r::rs,ru=>by
  obtain⟨a,b⟩:=Aw (ru:=ru) (n:=r.1) (ys:=r.2) (ms:=[]);obtain⟨c,d⟩:=Ax (rs:=rs) (ru:=ru++[r]);have e:(sD r).foldl dQ (ru,[])=(ru++[r],[]):=b;rw[GD,GF,e];refine⟨sH (P:=sD r) ⟨rfl,a⟩ (by rw[e];exact c),?_⟩;rw[d,jM];rfl
theorem Ay{ru:List (Nat×List Nm)}(h:ru≠[]):∀{rs ro:List (Nat×Nat×Str)},Wf (ru,ro) (rs.map .rd)/\(rs.map Ln.rd).foldl dQ (ru,ro)=(ru,ro++rs)
 | [],ro=>⟨trivial,by rw[lU];rfl⟩
 | r::rs,ro=>by
  obtain⟨a,b⟩:=Ay h (rs:=rs) (ro:=ro++[r]);rw[d_];exact⟨⟨h,a⟩,by rw[Bn];exact b.trans (by rw[jM];rfl)⟩
theorem KY{f:Nf}(h:fJ f):Wf ([],[]) (cy f)/\(cy f).foldl dQ ([],[])=(f.ru,f.ro):=by
 obtain⟨a,b⟩:=Ax (rs:=f.ru) (ru:=[]);have hn:f.ru≠[]:=λz=>by have:=h.l1;rw[z]at this;exact absurd this (by decide)
 obtain⟨c,d⟩:=Ay hn (rs:=f.ro) (ro:=[]);rw[wD]at b d;unfold cy;rw[GF,b];exact⟨sH a (by rw[b];exact c),d⟩
theorem sI{L:List Ln}{i:Nat}{l:Ln}{s:uz}(h:L[i]?=some l):(L.take (i+1)).foldl dQ s=dQ ((L.take i).foldl dQ s) l:=by
 rw[bJ h,GF];rfl
def gL(M:af)(n:Nat)(ls:List Ln):Prop:=M[n]?=some (.lst (ls.map gV))
def KZ(Gv:bo)(tv:List (Addr×Nat))(l:Ln)(rs:List Addr)(fo:Option Addr):Prop:=rs.length<=l.ws.length/\∀(i:Nat)(w:Str)(x:D),l.ws[i]?=some w->l.vs[i]?=some x->∃a f,RM rs fo i=some a/\tv.lookup a=some f/\AX (Gv f) w x
theorem qD{M:af}{l:Ln}(h:l.ok):gK false (.d (.str l.tx)) (.d (.str " ")) M=.ok (.lv ((l.nm::l.ws).map D.str)) M:=by
 have h2:=Ln.lQ h;have h3:=Ln.sum h;rw[UT,show l.tx=Str.join (ch 32) (l.nm::l.ws) from rfl];exact v9 (c:=32) (xs:=l.nm::l.ws) (by decide) (wA _ _) (λt m=>by exact(bw.mp m).elim (λz=>by rw[z];exact l.jE.2.2) λz=>(h2.2 t z).2.2) (by rw[eJ];omega) ∅
def R4(F:Fn):Prop:=∀(M:af)(n i:Nat)(ls:List Ln)(l:Ln),gL M n ls->ls[i]?=some l->l.ok->aQ (F [.aB n,.int (i:Nat)] M) λr M'=>r=.d (.str l.nm)/\Ex M M'
theorem Az{M:af}{n i:Nat}{ls:List Ln}{l:Ln}(h:gL M n ls)(e:ls[i]?=some l):dN (.d (.aB n)) (.d (.int (i:Nat))) M=.ok (.d (gV l)) M:=zU h (by rw[ff,e];rfl)
theorem Zz{G:bo}:R4 (ah G 2 Kp):=by
 intro M n i ls l h e hl;have hi:=(dq.mp e).1;rw[bO];show dy G Kp [some (.aB n),some (.int (i:Nat))] M _ _ _ _;unfold Kp;nofun;rw[dk h];nofun;rw[aR,dE (show((i:Nat):Int)<(ls.length:Nat) by omega)];nofun;rw[Az h e];nofun;rw[qD hl];nofun;rw[ib (by decide) (x:=.str l.nm) rfl];exact⟨rfl,Ex.refl M⟩
def VD(Gv:bo)(tv:List (Addr×Nat))(F:Fn):Prop:=∀(M:af)(n i:Nat)(ls:List Ln)(l:Ln)(rs:List Addr)(fo:Option Addr),gL M n ls->ls[i]?=some l->l.ok->KZ Gv tv l rs fo->aQ (F [.aB n,.int (i:Nat),.str l.nm,.tg (rs.map D.fn),Dl fo] M) λr M'=>∃v,r=.d (.aB v)/\M'[v]?=some (.lst l.vs)/\M.length<=v/\Ex M M'
theorem K0(l:Ln):l.ws.length=l.vs.length:=by
 cases l with
 | mv y=>show(y.sd.map mW).length+1+1+1+1=(y.sd.map qJ).length+1+1+1+1;rw[aR,aR]
 | _=>rfl
theorem ZB{G Gv:bo}{kF kV:Nat}{tv:List (Addr×Nat)}(hF:R4 (G kF))(hV:U2 Gv tv (G kV)):VD Gv tv (ah G 5 (Kq kF kV)):=by
 intro M n i ls l rs fo h e hl hr;rw[bO];show dy G (Kq kF kV) [some (.aB n),some (.int (i:Nat)),some (.str l.nm),some (.tg (rs.map D.fn)),some (Dl fo)] M _ _ _ _;unfold Kq;nofun;refine(hF M n i ls l h e hl).imp ?_;rintro x M1 ⟨rfl,g1⟩;nofun;rw[F4 l.jE.1.so l.jE.1.so,jc];nofun;rw[Az (Ex.get g1 h) e];nofun;rw[qD hl];nofun;have h5:=(Ln.lQ hl).1;refine(hV (M1++[.lst ((l.nm::l.ws).map D.str)]) M1.length l.nm l.ws l.vs rs fo a9 (K0 l) hr.1 ∅ hr.2).imp (er:=dP) ?_;rintro r M2 ⟨v,rfl,hv,OJ,g⟩;have:=g1.1;rw[cz]at OJ;exact⟨v,rfl,hv,∅,Ex.trans g1 (Ex.trans (Ex.refl M1).app g)⟩
noncomputable def Fb(xs ys:List D):List Str:=if ys≠[] then ["road"] else if xs≠[] then ["machine","move","road"] else ["machine"]
def VF(F:Fn):Prop:=∀(M:af)(a b:Nat)(xs ys:List D),M[a]?=some (.lst xs)->M[b]?=some (.lst ys)->aQ (F [.aB a,.aB b] M) λr M'=>r=.d (.tup ((Fb xs ys).map D.str))/\M'=M
theorem AA{xs:List D}:decide ((0:Int)<(xs.length:Nat))=decide (xs≠[]):=by
 cases xs with
 | nil=>rfl
 | cons x xs=>exact(dE (by rw[eJ];omega)).trans (dE (wA _ _)).symm
theorem ZC{G:bo}:VF (ah G 2 Ks):=by
 intro M a b xs ys ha hb;rw[bO];show dy G Ks [some (.aB a),some (.aB b)] M _ _ _ _;unfold Ks;nofun;rw[dk hb];nofun;rw[AA];unfold Fb;by_cases h:ys≠[]
 ·rw[dE h,aG h];nofun;exact⟨ae (bj rfl),rfl,rfl⟩
 ·rw[c_ h,aT h];nofun;rw[dk ha];nofun;rw[AA];by_cases k:xs≠[]
  ·rw[dE k,aG k];nofun;exact⟨ae (bj rfl),rfl,rfl⟩
  ·rw[c_ k,aT k];nofun;exact⟨ae (bj rfl),rfl,rfl⟩
noncomputable def uA(aN aC aW aO aS:Addr):rA:=[("machine",[aN],none),("move",[aN,aC,aN,aW],some aS),("road",[aN,aN,aO],none)]
noncomputable def Ln.rs(aN aC aW aO aS:Addr):Ln->List Addr×Option Addr
 | .ma _=>([aN],none)
 | .mv _=>([aN,aC,aN,aW],some aS)
 | .rd _=>([aN,aN,aO],none)
theorem sJ{aN aC aW aO aS:Addr}(l:Ln):(uA aN aC aW aO aS).lookup l.nm=some (l.rs aN aC aW aO aS):=by cases l<;>rfl
theorem VG{Gv:bo}{tv:List (Addr×Nat)}{aN aC aW aO aS:Addr}{iN' iC iW iO iS:Nat}(tN:tv.lookup aN=some iN')(tC:tv.lookup aC=some iC)(tW:tv.lookup aW=some iW)(tO:tv.lookup aO=some iO)(tS:tv.lookup aS=some iS)(hN:Dj 9 (Gv iN'))(hC:KP (Gv iC))(hW:KN (Gv iW))(hO:KQ (Gv iO))(hS:KR (Gv iS)){l:Ln}(h:l.ok):KZ Gv tv l (l.rs aN aC aW aO aS).1 (l.rs aN aC aW aO aS).2:=by
 cases l with
 | ma n =>
  refine⟨a7 _,λi w x hw hx=>?_⟩;rcases i with _ | i
  ·cases hw;cases hx;exact⟨aN,_,rfl,tN,hN n h⟩
  ·cases hw
 | mv y =>
  have h:lP y:=h;refine⟨by show 4<=(y.sd.map mW).length+1+1+1+1;omega,λi w x hw hx=>?_⟩;rcases i with _|_|_|_ | i
  ·cases hw;cases hx;exact⟨aN,_,rfl,tN,hN _ h.s⟩
  ·cases hw;cases hx;exact⟨aC,_,rfl,tC,hC _ h.c⟩
  ·cases hw;cases hx;exact⟨aN,_,rfl,tN,hN _ h.a⟩
  ·cases hw;cases hx;exact⟨aW,_,rfl,tW,hW _ h.w⟩
  ·have hw:(y.sd.map mW)[i]?=some w:=hw;have hx:(y.sd.map qJ)[i]?=some x:=hx;rw[ff]at hw hx
   cases e:y.sd[i]? with
   | none=>rw[e]at hw;cases hw
   | some p =>
    rw[e]at hw hx;cases hw;cases hx;obtain⟨a,b⟩:=h.sd p (cT e);exact⟨aS,_,aT (show ¬i+1+1+1+1<4 by omega),tS,hS p a b⟩
 | rd r =>
  have h:Ar r:=h;refine⟨a7 _,λi w x hw hx=>?_⟩;rcases i with _|_|_ | i
  ·cases hw;cases hx;exact⟨aN,_,rfl,tN,hN _ h.1⟩
  ·cases hw;cases hx;exact⟨aN,_,rfl,tN,hN _ h.2.1⟩
  ·cases hw;cases hx;exact⟨aO,_,rfl,tO,hO _ h.2.2⟩
  ·cases hw
structure gM (M:af) (a1 a2 a3 b c:Nat) (s:uz) (as:List Nat):Prop where
 s1:M[a1]?=some (.lst (s.1.map λr:Nat×List Nm=>iN r.1))
 s2:M[a2]?=some (.lst (as.map D.aB))
 s3:M[a3]?=some (.lst (s.2.map wb))
 la:as.length=s.1.length
 ms:∀(k a:Nat) r,as[k]?=some a->s.1[k]?=some r->M[a]?=some (.lst (r.2.map jD))
 ge:∀a∈as,b<=a
 nd:as.Nodup
 b1:s.1.length<=c
 b2:s.2.length<=c
 b3:∀r∈s.1,r.2.length<=c
 o1:a1<a2
 o2:a2<a3
 o3:a3<b
theorem gM.ex{M M':af}{a1 a2 a3 b c:Nat}{s:uz}{as:List Nat}(h:gM M a1 a2 a3 b c s as)(g:Ex M M'):gM M' a1 a2 a3 b c s as :=
 {h with s1:=Ex.get g h.s1,s2:=Ex.get g h.s2,s3:=Ex.get g h.s3,ms:=λk a r e1 e2=>Ex.get g (h.ms k a r e1 e2)}
theorem gM.VH{M:af}{a1 a2 a3 b c:Nat}{s:uz}{as:List Nat}(h:gM M a1 a2 a3 b c s as){k a:Nat}(e:as[k]?=some a):b<=a:=h.ge a (cT e)
theorem gM.ma{M:af}{a1 a2 a3 b c:Nat}{s:uz}{as:List Nat}(h:gM M a1 a2 a3 b c s as)(hb:b<=M.length)(n:Nat):gM (((M.set a1 (MO.lst ((s.1.map λr:Nat×List Nm=>iN r.1)++[iN n])))++[MO.lst []]).set a2 (.lst (as.map D.aB++[D.aB M.length]))) a1 a2 a3 b (c+1) (dQ s (.ma n)) (as++[M.length]):=by
 have o1:=h.o1;have o2:=h.o2;have o3:=h.o3
 have Ck:∀a∈as,a<M.length:=λa m=>by
  obtain⟨k,hk,rfl⟩:=Be.mp m;have Lj:k<s.1.length:=by have:=h.la;omega
  have e2:s.1[k]?=some s.1[k]:=fx Lj;exact bx (h.ms k _ _ (fx hk) e2)
 have hs:∀{X:MO},(M.set a1 X).length=M.length:=lW;refine⟨?_,?_,?_,?_,?_,?_,?_,?_,?_,?_,o1,o2,o3⟩
 ·show _=some (MO.lst ((s.1++[(n,[])]).map λr:Nat×List Nm=>iN r.1));rw[fA];exact aJ (bC (bb h.s1)) ∅
 ·rw[fA];exact bb (bC (aJ h.s2 ∅))
 ·exact aJ (bC (aJ h.s3 ∅)) ∅
 ·show _=(s.1++[(n,[])]).length;rw[cz,cz,h.la];rfl
 ·intro k a r e1 e2;have e2:(s.1++[(n,[])])[k]?=some r:=e2;by_cases hk:k<as.length
  ·rw[fL hk]at e1;rw[fL (by have:=h.la;omega)]at e2;have:=h.VH e1;exact aJ (bC (aJ (h.ms k a r e1 e2) ∅)) ∅
  ·rw[lT ∅]at e1;have Lj:k=as.length:=by have:=(dq.mp e1).1;simp at this;omega
   subst Lj;rw[lT (by have:=h.la;omega),show as.length-s.1.length=0 by have:=h.la;omega]at e2;simp at e1 e2;subst e1 e2;refine aJ ?_ ∅;have:(M.set a1 (MO.lst ((s.1.map λr:Nat×List Nm=>iN r.1)++[iN n]))++[MO.lst []])[(M.set a1 (MO.lst ((s.1.map λr:Nat×List Nm=>iN r.1)++[iN n]))).length]?=some (.lst []):=a9;rw[hs]at this;exact this
 ·intro a m;rcases fN.mp m with z | z
  ·exact h.ge a z
  ·rw[gG.mp z];exact hb
 ·rw[List.nodup_append];refine⟨h.nd,by simp,λa m b' m'=>?_⟩;rw[gG.mp m'];have:=Ck a m;omega
 ·show(s.1++[(n,[])]).length<=_;rw[cz];have:=h.b1;show _+1<=_;omega
 ·have:=h.b2;show s.2.length<=_;omega
 ·intro r m;have m:r∈s.1++[(n,[])]:=m;rcases fN.mp m with z | z
  ·have:=h.b3 r z;omega
  ·rw[gG.mp z];exact lX _
theorem gM.mv{M:af}{a1 a2 a3 b c:Nat}{s:uz}{as:List Nat}(h:gM M a1 a2 a3 b c s as)(hn:s.1≠[])(y:Nm):∃(W5:List Nat) (a:Nat) (r:Nat×List Nm),as=W5++[a]/\b<=a/\M[a]?=some (.lst (r.2.map jD))/\r.2.length<=c/\gM (M.set a (.lst (r.2.map jD++[jD y]))) a1 a2 a3 b (c+1) (dQ s (.mv y)) as:=by
 have o1:=h.o1;have o2:=h.o2;have o3:=h.o3;have hl:=h.la;have Vf:0<s.1.length:=List.length_pos_iff.mpr hn;have FK:as≠[]:=List.length_pos_iff.mp ∅;have ha:as[s.1.length-1]?=some (as.getLast FK):=by rw[List.getLast_eq_getElem,<- hl];exact fx ∅
 have hr:s.1[s.1.length-1]?=some (s.1[s.1.length-1]'(∅)):=fx ∅;have hM:=h.ms _ _ _ ha hr;have W6:=h.VH ha;refine⟨as.dropLast,as.getLast FK,_,(List.dropLast_concat_getLast FK).symm,W6,hM,h.b3 _ (cT hr),?_⟩;generalize as.getLast FK=a at ha hM W6;generalize s.1[s.1.length-1]'(∅)=r at hr hM
 have hf:∀k,(iY s.1 y)[k]?=if s.1.length-1=k then s.1[k]?.map λr=>(r.1,r.2++[y]) else s.1[k]?:=λk=>by
  unfold iY;rw[List.getElem?_modify];split<;>simp
 refine⟨?_,?_,?_,?_,?_,h.ge,h.nd,?_,?_,?_,o1,o2,o3⟩
 ·have:(iY s.1 y).map (λr:Nat×List Nm=>iN r.1)=s.1.map λr:Nat×List Nm=>iN r.1:=by
   apply List.ext_getElem?;intro k;rw[ff,ff,hf];split
   ·cases s.1[k]? <;> rfl
   ·rfl
  show _=some (MO.lst ((iY s.1 y).map λr:Nat×List Nm=>iN r.1));rw[this];exact aJ h.s1 ∅
 ·exact aJ h.s2 ∅
 ·exact aJ h.s3 ∅
 ·show _=(iY s.1 y).length;unfold iY;rw[List.length_modify,hl]
 ·intro k a' r' e1 e2;have e2:(iY s.1 y)[k]?=some r':=e2;rw[hf]at e2;by_cases hk:s.1.length-1=k
  ·subst hk;rw[aG rfl,hr]at e2;rw[ha]at e1;cases e1;cases e2;rw[fA];exact bb hM
  ·rw[aT hk]at e2;refine aJ (h.ms k a' r' e1 e2) λz=>hk ?_;subst z;have h1:=(dq.mp e1);have h2:=(dq.mp ha);exact(List.getElem_inj h.nd).mp (h2.2.trans h1.2.symm)
 ·show(iY s.1 y).length<=_;unfold iY;rw[List.length_modify];have:=h.b1;omega
 ·have:=h.b2;show s.2.length<=_;omega
 ·intro r' m;obtain⟨k,hk⟩:=List.getElem?_of_mem (show r'∈iY s.1 y from m);rw[hf]at hk;split at hk
  ·cases e:s.1[k]? with
   | none=>rw[e]at hk;cases hk
   | some q =>
    rw[e]at hk;cases hk;have:=h.b3 q (cT e);show(q.2++[y]).length<=_;rw[cz];show _+1<=_;omega
  ·have:=h.b3 r' (cT hk);omega
theorem gM.rd{M:af}{a1 a2 a3 b c:Nat}{s:uz}{as:List Nat}(h:gM M a1 a2 a3 b c s as)(r:Nat×Nat×Str):gM (M.set a3 (.lst (s.2.map wb++[wb r]))) a1 a2 a3 b (c+1) (dQ s (.rd r)) as:=by
 have o1:=h.o1;have o2:=h.o2;have o3:=h.o3;refine⟨aJ h.s1 ∅,aJ h.s2 ∅,?_,h.la,λk a r' e1 e2=>aJ (h.ms k a r' e1 e2) (by have:=h.VH e1;omega),h.ge,h.nd,Nat.le_succ_of_le h.b1,?_,λr m=>Nat.le_succ_of_le (h.b3 r m),o1,o2,o3⟩
 ·show _=some (MO.lst ((s.2++[r]).map wb));rw[fA];exact bb h.s3
 ·show(s.2++[r]).length<=_;rw[cz];have:=h.b2;show _+1<=_;omega
theorem AB{M:af}{n:Nat}{ds:List D}{x:D}(h:M[n]?=some (.lst (ds++[x]))):dN (.d (.aB n)) (.d (.int (-1))) M=.ok (.d x) M:=by
 have hl:(ds++[x]).length=ds.length+1:=by rw[cz];rfl
 have e:FC (ds++[x]) (-1)=some x:=by
  unfold FC oG yx;rw[aT (by decide),aG ∅,show((-1:Int)+((ds++[x]).length:Nat)).toNat=ds.length by omega];simp
 unfold dN b_;simp only[h,e]
theorem VI{a b c d:D}{ds:List D}:cutD (a::b::c::d::ds) (some 4) none=ds:=by
 have e4:(4:Int)=((4:Nat):Int):=rfl;unfold cutD;rw[e4,HT.BK,HT.yt,eJ,eJ,eJ,eJ,Nat.min_eq_left ∅,wt,wt,wt,wt,List.drop_zero,show ds.length+1+1+1+1-4=ds.length by omega,fy]
theorem VJ{M:af}{n:Nat}{a b c d:D}{ds:List D}(h:M[n]?=some (.lst (a::b::c::d::ds))):kM (.d (.aB n)) (some 4) none M=.ok (.lv ds) M:=by
 unfold kM b_;simp only[h];rw[VI]
theorem K1{s:uz}{l:Ln}(h:KW s l):l.nm∈Fb (s.1.map λr:Nat×List Nm=>iN r.1) (s.2.map wb):=by
 have m1:∀{α:Type}{g:α->D}{xs:List α},xs=[]->¬xs.map g≠[]:=λe=>by rw[e];simp
 have m2:∀{α:Type}{g:α->D}{xs:List α},xs≠[]->xs.map g≠[]:=λe=>by simpa using e
 unfold Fb
 cases l with
 | ma n =>
  rw[aT (m1 h)];split<;>simp[Ln.nm]
 | mv y =>
  rw[aT (m1 h.1),aG (m2 h.2)];simp[Ln.nm]
 | rd r =>
  split
  ·simp[Ln.nm]
  ·rw[aG (m2 h)];simp[Ln.nm]
theorem K2{xs ys:List D}:∀y∈Fb xs ys,PyData.strOk y=true:=by
 have k:∀y:Str,y = "machine" \/ y = "move" \/ y = "road" -> PyData.strOk y=true:=λy h=>by rcases h with rfl | rfl | rfl<;>decide +kernel
 intro y hy;unfold Fb at hy;refine k y ?_;split at hy
 ·exact .inr (.inr (gG.mp hy))
 ·split at hy
  ·simpa using hy
  ·exact .inl (gG.mp hy)
theorem AD{M:af}{l:Ln}{x:Str}(hx:PyData.strOk x=true):bD .eq (.d (.str l.nm)) (.d (.str x)) M=.ok (l.nm==x) M:=lE l.jE.1.so hx
def R5(F:Fn):Prop:=∀(M:af)(n:Nat)(f:Nf),fJ f->gL M n (cy f)->aQ (F [.aB n] M) λr M'=>r=.d (jb f)/\Ex M M'
theorem Dz{f:Nf}(h:fJ f):(cy f).length<=124:=by
 have:=lR h f.ro.length;unfold iX at this;rw[fy]at this;exact this
theorem ZD{G Gv:bo}{kF kN kL:Nat}{tv:List (Addr×Nat)}{aN aC aW aO aS:Addr}(hF:R4 (G kF))(hN:VF (G kN))(hL:VD Gv tv (G kL))(hR:∀l:Ln,l.ok->KZ Gv tv l (l.rs aN aC aW aO aS).1 (l.rs aN aC aW aO aS).2):R5 (ah G 7 (Kt kF kN kL (uA aN aC aW aO aS))):=by
 intro M n f hf h;have hn:=bx h;have ZE:=Dz hf;obtain⟨wf,ZF⟩:=KY hf;rw[bO];show dy G (Kt kF kN kL (uA aN aC aW aO aS)) [some (.aB n),none,none,none,none,none,none] M _ _ _ _;unfold Kt;nofun;refine⟨ae (bj rfl),?_⟩;nofun;refine⟨ae (bj rfl),?_⟩;nofun;refine⟨ae (bj rfl),?_⟩;nofun;have b1:(((M++[MO.lst []])++[MO.lst []])++[MO.lst []])[M.length]?=some (.lst []):=bC (bC a9);have b2:(((M++[MO.lst []])++[MO.lst []])++[MO.lst []])[(M++[MO.lst []]).length]?=some (.lst []):=bC a9;have b3:(((M++[MO.lst []])++[MO.lst []])++[MO.lst []])[((M++[MO.lst []])++[MO.lst []]).length]?=some (.lst []):=a9;have f0:Ex M (((M++[MO.lst []])++[MO.lst []])++[MO.lst []]):=(Ex.refl M).app.app.app;have l1:(M++[MO.lst []]).length=M.length+1:=by rw[cz];rfl
 have l2:((M++[MO.lst []])++[MO.lst []]).length=M.length+2:=by rw[cz,l1];rfl
 have l3:(((M++[MO.lst []])++[MO.lst []])++[MO.lst []]).length=M.length+3:=by rw[cz,l2];rfl
 rw[l1]at b2;rw[l2]at b3;simp only[l1,l2];have E_:gM (((M++[MO.lst []])++[MO.lst []])++[MO.lst []]) M.length (M.length+1) (M.length+2) (M.length+3) 0 ([],[]) []:=⟨b1,b2,b3,rfl,λk a r e=>(by cases e),λa m=>(by cases m),List.nodup_nil,a7 _,a7 _,λr m=>(by cases m),∅,∅,∅⟩;have h0:gL (((M++[MO.lst []])++[MO.lst []])++[MO.lst []]) n (cy f):=Ex.get f0 h;have W7:M.length+3<=(((M++[MO.lst []])++[MO.lst []])++[MO.lst []]).length:=na l3.symm;generalize ((M++[MO.lst []])++[MO.lst []])++[MO.lst []]=M0 at E_ h0 f0 W7;clear b1 b2 b3 l1 l2 l3;rw[dk h0];nofun;rw[aR];refine⟨⟨∅,∅⟩,?_⟩;refine lH (n:=(((cy f).length:Nat):Int).toNat) (λi ρ M'=>∃o4 o5 o6 as,ρ=[some (.aB n),some (.aB M.length),some (.aB (M.length+1)),some (.aB (M.length+2)),o4,o5,o6]/\gM M' M.length (M.length+1) (M.length+2) (M.length+3) i (((cy f).take i).foldl dQ ([],[])) as/\gL M' n (cy f)/\M.length+3<=M'.length/\Ex M M') ⟨_,_,_,[],rfl,E_,h0,W7,f0⟩ ?_ ?_
 ·intro J nx rt up;rintro i ρ M1 hi ⟨o4,o5,o6,as,rfl,st,h1,OP,g1⟩;rw[show(0:Int)+(i:Nat)=((i:Nat):Int) by omega];obtain⟨l,hl⟩:∃l,(cy f)[i]?=some l:=⟨_,fx ∅⟩;have R6:=oE hf l (cT hl);have os:=Gk wf hl;have next:=sI (s:=([],[])) hl
  have VL:∀M,nR (uA aN aC aW aO aS) (.d (.str l.nm)) M=.ok (.d (.tg [.tg ((l.rs aN aC aW aO aS).1.map D.fn),Dl (l.rs aN aC aW aO aS).2])) M:=λM=>by
   unfold nR;dsimp only;rw[sJ l];dsimp only;generalize l.rs aN aC aW aO aS=p;obtain⟨p,q⟩:=p;cases q<;>rfl
  nofun;refine(hF M1 n i _ l h1 hl R6).imp ?_;rintro x M2 ⟨rfl,g2⟩;have jW:=st.ex g2;nofun;refine(hN M2 _ _ _ _ jW.s1 jW.s3).imp ?_;rintro x M3 ⟨rfl,rfl⟩;nofun;rw[uv (K1 os) K2];nofun;rw[VL];nofun;rw[VL];nofun;refine(hL M3 n i _ l _ _ (Ex.get g2 h1) hl R6 (hR l R6)).imp ?_;rintro x M4 ⟨v,rfl,hv,rQ,g4⟩;have R7:=Ex.trans g2 g4;have mF:=jW.ex g4;have h4:gL M4 n (cy f):=Ex.get R7 h1;have Q4:M.length+3<=M4.length:=fh OP R7.1;have VM:=Ex.trans g1 R7;have hv3:M.length+3<=v:=by have:=g2.1;omega
  clear st jW g1 g2 R7 g4 h1 OP VL;generalize hs:((cy f).take i).foldl dQ ([],[])=s at mF os next
  nofun;rw[AD ⋯]
  cases l with
  | ma k =>
   have hv:M4[v]?=some (.lst [iN k]):=hv;rw[show((Ln.ma k).nm == "machine")=true from jc _];nofun;refine⟨bA mF.s1,?_⟩;nofun;rw[dD hv (by decide) (x:=iN k) rfl];nofun;rw[bP mF.s1 (aP (by have:=mF.b1;rw[aR];omega))];nofun;refine⟨bA (aJ mF.s2 ∅),?_⟩;nofun;refine⟨ae (bj rfl),?_⟩;nofun;rw[lW];rw[bP (bC (aJ mF.s2 ∅)) (aP (by have:=mF.b1;have:=mF.la;rw[aR];omega))];nofun;have q:=mF.ma Q4 k;rw[<- next]at q;refine up _ _ _ ⟨_,_,_,_,rfl,q,aJ (bC (aJ h4 ∅)) ∅,?_,(Fr.app (VM.set ∅)).set ∅⟩;rw[lW,cz,lW];omega
  | mv y =>
   have hv:M4[v]?=some (.lst (iN y.s::.str y.c::iN y.a::v_ y.w::y.sd.map qJ)):=hv;obtain⟨W5,a,r,ea,hba,W8,hrc,q⟩:=mF.mv os.2 y;have l3:=lP.l R6;rw[show((Ln.mv y).nm == "machine")=false from (⋯:(("move" : Str) == "machine")=false)];nofun;rw[AD ⋯,show((Ln.mv y).nm == "move")=true from jc _];have s2:=mF.s2;rw[ea,fA]at s2;nofun;rw[AB s2];nofun;refine⟨bA W8,?_⟩;nofun;rw[dD hv (by decide) (x:=iN y.s) rfl];nofun;rw[dD hv (by decide) (x:=.str y.c) rfl];nofun;rw[dD hv (by decide) (x:=iN y.a) rfl];nofun;rw[VJ hv];nofun;rw[dD hv (by decide) (x:=v_ y.w) rfl];nofun;refine⟨ae (bj rfl),?_⟩;nofun;rw[bP W8 (aP (by rw[aR];omega))];nofun;rw[<- next]at q;refine up _ _ _ ⟨_,_,_,_,rfl,q,aJ h4 ∅,by rw[lW];omega,VM.set ∅⟩
  | rd r =>
   have hv:M4[v]?=some (.lst [iN r.1,iN r.2.1,.str r.2.2]):=hv;rw[show((Ln.rd r).nm == "machine")=false from (⋯:(("road" : Str) == "machine")=false)];nofun;rw[AD ⋯,show((Ln.rd r).nm == "move")=false from (⋯:(("road" : Str) == "move")=false)];nofun;refine⟨bA mF.s3,?_⟩;nofun;rw[cM hv];nofun;rw[bP mF.s3 (aP (by have:=mF.b2;rw[aR];omega))];nofun;have q:=mF.rd r;rw[<- next]at q;refine up _ _ _ ⟨_,_,_,_,rfl,q,aJ h4 ∅,by rw[lW];omega,VM.set ∅⟩
 ·rintro ρ M1 ⟨o4,o5,o6,as,rfl,st,h1,OP,g1⟩;rw[show(((cy f).length:Nat):Int).toNat=(cy f).length by omega,fy,ZF]at st;have hl1:=hf.l1;have P1:=hf.l4;nofun;rw[dk st.s1];nofun;rw[aR,m7.mpr (show((f.ru.length:Nat):Int)≠0 by omega)];nofun;rw[Q3 st.s1 st.s2];nofun
  have hz:(List.zipWith (λa b=>D.tup [a,b]) (f.ru.map λr:Nat×List Nm=>iN r.1) (as.map D.aB)).length=f.ru.length:=by
   rw[Bf,aR,aR,st.la,Nat.min_self]
  refine iT (ds:=List.zipWith (λa b=>D.tup [a,b]) (f.ru.map λr:Nat×List Nm=>iN r.1) (as.map D.aB)) (λi M' aA=>M'=M1/\aA=(f.ru.take i).map mV) (by decide) (λi M' aA h hi=>by rw[h.1];exact Av st.s1 st.s2 i) ⟨rfl,rfl⟩ ?_ ?_ ?_
  ·rintro i M' aA d hd ⟨rfl,rfl⟩;obtain⟨x,y,e1,e2,rfl⟩:=qC hd;obtain⟨r,hr,rfl⟩:=cN e1;obtain⟨a,ha,rfl⟩:=cN e2;refine⟨aP (by rw[aR,fT];omega),?_⟩;nofun;rw[cM (st.ms i a r ha hr)];nofun;refine⟨ae (bj rfl),?_⟩;nofun;exact⟨rfl,by rw[bJ hr,fA];rfl⟩
  ·rintro M' aA ⟨rfl,rfl⟩;nofun;rw[cM st.s3];nofun;rw[hz,fy];exact⟨ae (bj rfl),rfl,g1⟩
  ·show cO M1 (.zip (.at M.length) (.at (M.length+1)))=_;unfold cO mf;simp only[st.s1,st.s2,Bf]
def Pg(h:Nat)(d:D):Prop:=∃p:PyData,(∀M n,h<=n->eG M n d=some p)/\p.canLay0=true/\p.depth<=h
theorem Pg.mono{h k:Nat}{d:D}(x:Pg h d)(e:h<=k):Pg k d:=by
 obtain⟨p,a,b,c⟩:=x;exact⟨p,λM n hn=>a M n ∅,b,∅⟩
theorem Pg.ba:Pg 0 .ba:=⟨.none,λM n _=>by cases n<;>(unfold eG;rfl),PyData.canLay0.eq_1,na PyData.depth.eq_4⟩
theorem Pg.int{i:Int}:Pg 0 (.int i):=⟨.int i,λM n _=>by cases n<;>(unfold eG;rfl),PyData.canLay0.eq_3 i,na (PyData.depth.eq_6 i)⟩
theorem Pg.str{x:Str}(h:PyData.strOk x=true):Pg 0 (.str x):=⟨.str x,λM n _=>by cases n<;>(unfold eG;rfl),(PyData.canLay0.eq_4 x).trans h,na (PyData.depth.eq_7 x)⟩
theorem Pg.ds{h:Nat}:∀{ds:List D},(∀d∈ds,Pg h d)->∃ps,(∀M n,h<=n->cw M n ds=some ps)/\PyData.canLayAll0 ps=true/\PyData.depthAll ps<=h
 | [],_=>⟨[],λM n _=>by unfold cw;rfl,PyData.canLayAll0.eq_1,by rw[PyData.depthAll.eq_1];omega⟩
 | d::ds,q=>by
  obtain⟨ps,e,a,b⟩:=Pg.ds (ds:=ds) λd hd=>q d (cZ _ hd);obtain⟨p,ep,ap,bp⟩:=q d (cG ..);exact⟨p::ps,λM n hn=>by unfold cw;rw[ep M n hn,e M n hn],by rw[PyData.canLayAll0.eq_2,a,ap];rfl,by rw[PyData.depthAll.eq_2];omega⟩
theorem Pg.tup{h:Nat}{ds:List D}(q:∀d∈ds,Pg h d):Pg (h+1) (.tup ds):=by
 obtain⟨ps,e,a,b⟩:=Pg.ds q;refine⟨.tuple ps,λM n hn=>?_,(PyData.canLay0.eq_6 ps).trans a,by rw[PyData.depth.eq_2];omega⟩;obtain⟨n,rfl⟩:∃m,n=m+1:=⟨n-1,∅⟩;unfold eG;rw[e M n ∅];rfl
theorem AE{p:PyData}{h:Nat}(a:p.canLay0=true)(b:p.depth<=h)(hh:h<=40):SeqAt.shaped p=true:=by
 unfold SeqAt.shaped;rw[a,Bool.true_and];exact dE ∅
theorem Gm{M:af}{h:Nat}{x y:D}(hx:Pg h x)(hy:Pg h y)(hh:h<=20):∃b,bD .eq (.d x) (.d y) M=.ok b M:=by
 obtain⟨p,e1,a1,b1⟩:=hx;obtain⟨q,e2,a2,b2⟩:=hy;have h1:jZ M (.d x)=some p:=e1 M 30 ∅;have h2:jZ M (.d y)=some q:=e2 M 30 ∅;refine⟨PyData.eqv p q,?_⟩;unfold bD;simp only[h1,h2,AE a1 b1 ∅,AE a2 b2 ∅,nc,fO]
theorem sL{M:af}{a b:Nat}{ls:List Ln}(ha:gL M a ls)(hb:gL M b ls)(h:∀l∈ls,l.ok):bD .ne (.d (.aB a)) (.d (.aB b)) M=.ok false M:=by
 obtain⟨ps,e,a1,b1⟩:=Pg.ds (h:=0) (ds:=ls.map gV) λd m=>by obtain⟨l,hl,rfl⟩:=dR.mp m;exact Pg.str (Ln.asc (h l hl)).so
 have k:∀n,gL M n ls->jZ M (.d (.aB n))=some (.list ps):=λn hn=>by
  show eG M 30 (.aB n)=_;unfold eG;have hn:M[n]?=some (.lst (ls.map gV)):=hn;simp only[hn];rw[e M 29 ∅];rfl
 have hc:(PyData.list ps).canLay0=true:=(PyData.canLay0.eq_5 ps).trans a1;have hs:SeqAt.shaped (.list ps)=true:=AE (h:=1) hc (by rw[PyData.depth.eq_1];omega) (by decide);have hr:PyData.eqv (.list ps) (.list ps)=true:=SeqAt.eqv_refl _ hc;unfold bD;simp only[k a ha,k b hb,hs,nc,fO,hr];rfl
noncomputable def Ag:Nat->D->Prop
 | _,.int _=>True
 | _,.ba=>True
 | _,.str a=>PyData.strOk a=true
 | n+1,.tup xs=>xs.length<=900/\∀x∈xs,Ag n x
 | _,_=>False
def qE(n:Nat)(F:Fn):Prop:=∀(M:af)(x:D),Ag n x->aQ (F [x,x] M) λr M'=>r=.d (.bl true)/\Ex M M'
theorem W9{G:bo}{k n:Nat}(h:∀m,n=m+1->qE m (G k)):qE n (ah G 2 (gU k)):=by
 intro M x hx;rw[bO];show dy G (gU k) [some x,some x] M _ _ _ _;unfold gU
 cases x with
 | int i =>
  nofun;rw[jc];exact⟨rfl,Ex.refl M⟩
 | ba =>
  nofun;exact⟨rfl,Ex.refl M⟩
 | str a =>
  have e:PyData.strOk a=true:=by cases n<;>exact hx
  nofun;rw[lE e e,jc];exact⟨rfl,Ex.refl M⟩
 | tup xs =>
  cases n with
  | zero=>exact hx.elim
  | succ m =>
   obtain⟨h9,hA⟩:=hx;nofun;rw[jc];nofun;refine iT (ds:=List.zipWith (λa b=>D.tup [a,b]) xs xs) (λi M' aA=>Ex M M'/\aA.length<=i/\∀d∈aA,d=.bl true) (by decide) (λi M' aA h hi=>Dx i) ⟨Ex.refl M,a7 _,λd m=>by cases m⟩ ?_ ?_ (by show min xs.length xs.length=_;rw[Bf])
   ·rintro i M' aA d hd ⟨g,hla,hb⟩;have hi:=(dq.mp hd).1;rw[Bf]at hi;obtain⟨x,y,e1,e2,rfl⟩:=qC hd;rw[e1]at e2;cases e2;refine⟨aP ∅,?_⟩;nofun;refine(h m rfl M' x (hA x (cT e1))).imp ?_;rintro r M2 ⟨rfl,g2⟩;nofun;exact⟨Ex.trans g g2,by rw[cz];show _+1<=_;omega,λd m=>(fN.mp m).elim (hb d) λz=>gG.mp z⟩
   ·rintro M' aA ⟨g,_,hb⟩;nofun;rw[oA hb];exact⟨rfl,g⟩
 | _=>cases n<;>exact hx.elim
theorem AF{Fs:List Fn}{k:Nat}(hk:Fs.length=k):∀n,qE n (qd Fs 2 (gU k) (n+1))
 | 0=>by
  show qE 0 (ah (cv (Fs++[qd Fs 2 (gU k) 0])) 2 (gU k));exact W9 λm e=>nomatch e
 | n+1=>by
  show qE (n+1) (ah (cv (Fs++[qd Fs 2 (gU k) (n+1)])) 2 (gU k));refine W9 λm e=>?_;cases e
  have:cv (Fs++[qd Fs 2 (gU k) (n+1)]) k=qd Fs 2 (gU k) (n+1):=by
   funext ds M;unfold cv;rw[<- hk];simp
  rw[this];exact AF hk n
theorem Gn{w:Option Str}(h:si w){x:Str}(e:w=some x):PyData.strOk x=true:=(eS (sE h e).1).1.so
theorem lP.pg{y:Nm}(h:lP y):Pg 3 (jD y)/\Ag 4 (jD y):=by
 have sd:∀p∈y.sd,PyData.strOk p.2=true:=λp hp=>(fK (h.sd p hp).2).1.so;have h3:=h.l;have hc:=(uu h.c).1.so;refine⟨Pg.tup λd m=>?_,show 5<=900 by decide,λd m=>?_⟩
 ·simp only[bw,fM,dH]at m;rcases m with rfl | rfl | rfl | rfl | rfl
  ·exact Pg.int.mono (by decide)
  ·exact(Pg.str hc).mono (by decide)
  ·exact Pg.int.mono (by decide)
  ·refine Pg.tup λd m=>?_;obtain⟨p,hp,rfl⟩:=dR.mp m;refine Pg.tup λd m=>?_;simp only[bw,fM,dH]at m;rcases m with rfl | rfl
   ·exact Pg.int
   ·exact Pg.str (sd p hp)
  ·cases hw:y.w with
   | none=>exact Pg.ba.mono (by decide)
   | some x=>exact(Pg.str (Gn h.w hw)).mono (by decide)
 ·simp only[bw,fM,dH]at m;rcases m with rfl | rfl | rfl | rfl | rfl
  ·exact trivial
  ·exact hc
  ·exact trivial
  ·refine⟨by rw[aR];omega,λd m=>?_⟩;obtain⟨p,hp,rfl⟩:=dR.mp m;refine⟨show 2<=900 by decide,λd m=>?_⟩;simp only[bw,fM,dH]at m;rcases m with rfl | rfl
   ·exact trivial
   ·exact sd p hp
  ·cases hw:y.w with
   | none=>exact trivial
   | some x=>exact Gn h.w hw
theorem fJ.pg{f:Nf}(h:fJ f):Pg 6 (.tup (f.ru.map mV))/\Pg 2 (.tup (f.ro.map wb))/\Ag 8 (jb f):=by
 have h4:=h.l4;have h8:=h.l8;refine⟨Pg.tup λd m=>?_,Pg.tup λd m=>?_,show 2<=900 by decide,λd m=>?_⟩
 ·obtain⟨r,hr,rfl⟩:=dR.mp m;refine Pg.tup λd m=>?_;simp only[bw,fM,dH]at m;rcases m with rfl | rfl
  ·exact Pg.int.mono (by decide)
  ·refine Pg.tup λd m=>?_;obtain⟨y,hy,rfl⟩:=dR.mp m;exact((h.ru r hr).2.2 y hy).pg.1
 ·obtain⟨r,hr,rfl⟩:=dR.mp m;refine Pg.tup λd m=>?_;simp only[bw,fM,dH]at m;rcases m with rfl | rfl | rfl
  ·exact Pg.int
  ·exact Pg.int
  ·exact Pg.str (sF (h.ro r hr).2.2).1.so
 ·simp only[bw,fM,dH]at m;rcases m with rfl | rfl
  ·refine⟨by rw[aR];omega,λd m=>?_⟩;obtain⟨r,hr,rfl⟩:=dR.mp m;obtain⟨_,Q2,rm⟩:=h.ru r hr;refine⟨show 2<=900 by decide,λd m=>?_⟩;simp only[bw,fM,dH]at m;rcases m with rfl | rfl
   ·exact trivial
   ·refine⟨by rw[aR];omega,λd m=>?_⟩;obtain⟨y,hy,rfl⟩:=dR.mp m;exact(rm y hy).pg.2
  ·refine⟨by rw[aR];omega,λd m=>?_⟩;obtain⟨r,hr,rfl⟩:=dR.mp m;refine⟨show 3<=900 by decide,λd m=>?_⟩;simp only[bw,fM,dH]at m;rcases m with rfl | rfl | rfl
   ·exact trivial
   ·exact trivial
   ·exact(sF (h.ro r hr).2.2).1.so
noncomputable def Lx(b:Int)(m:Mv):Nm:=⟨(m.s+b).toNat,m.c,(m.a+b).toNat,m.sd.map λp=>(p.1.toNat,p.2),m.w⟩
def K3(b:Int)(r:Int×List Mv):Nat×List Nm:=((r.1+b).toNat,r.2.map (Lx b))
noncomputable def VN(r:Int×Int×Str):Nat×Nat×Str:=(r.1.toNat,r.2.1.toNat,r.2.2)
def VO(f:Fm)(b:Int):Nf:=⟨f.ru.map (K3 b),f.ro.map VN⟩
theorem K4{ro:List (Int×Int×Str)}{m:Nat}{y:Mv}(h:Dp ro m y)(h8:ro.length<=8){b:Int}(b0:0<=b)(b1:b<=97):lP (Lx b y):=by
 have hs:=h.s;have ha:=h.a;refine⟨?_,?_,?_,?_,?_,h.w⟩
 ·show(y.s+b).toNat<_;omega
 ·rcases h.c with e | e | e | e
  ·exact .inl e
  ·exact .inr (.inl e)
  ·exact .inr (.inr (.inl e))
  ·exact .inr (.inr (.inr (.inr e)))
 ·show(y.a+b).toNat<_;omega
 ·show(y.sd.map _).length<=3;rw[aR];exact h.l
 ·intro p hp;obtain⟨q,hq,rfl⟩:=dR.mp hp;obtain⟨a,a0,r,hr,_⟩:=h.sd q hq;have:=(dq.mp hr).1;exact⟨by show q.1.toNat<_;omega,a⟩
theorem K5{f:Fm}(h:Ao f){b:Int}(b0:0<=b)(b1:b<=97):fJ (VO f b):=by
 refine⟨?_,?_,?_,?_,?_⟩
 ·show 1<=(f.ru.map _).length;rw[aR];exact h.l1
 ·show(f.ru.map _).length<=4;rw[aR];exact h.l4
 ·show(f.ro.map _).length<=8;rw[aR];exact h.l8
 ·intro r hr;obtain⟨x,hx,rfl⟩:=dR.mp hr;obtain⟨k,hk⟩:=List.getElem?_of_mem hx;obtain⟨h1,h2,h3⟩:=h.ru k x hk;refine⟨by show(x.1+b).toNat<_;omega,by show(x.2.map _).length<=28;rw[aR];exact h2,λy hy=>?_⟩;obtain⟨m,hm,rfl⟩:=dR.mp hy;exact K4 (h3 m hm) h.l8 b0 b1
 ·intro r hr;obtain⟨x,hx,rfl⟩:=dR.mp hr;have q:=h.ro x hx;have:=h.l4;exact⟨by have:=q.a;show x.1.toNat<_;omega,by have:=q.b;show x.2.1.toNat<_;omega,q.k⟩
theorem mZ{i:Int}(h:0<=i):D.int i=iN i.toNat:=by show _=D.int _;rw[Int.toNat_of_nonneg h]
theorem DA{sd:List (Int×Str)}(h:∀p∈sd,0<=p.1):sd.map pD=(sd.map λp=>(p.1.toNat,p.2)).map qJ:=by
 rw[kh];refine List.map_congr_left λp hp=>?_;show D.tup [.int p.1,.str p.2]=D.tup [iN p.1.toNat,.str p.2];rw[mZ (h p hp)]
theorem DB{ro:List (Int×Int×Str)}(h:∀r∈ro,0<=r.1/\0<=r.2.1):ro.map Lp=(ro.map VN).map wb:=by
 rw[kh];refine List.map_congr_left λr hr=>?_;show D.tup [.int r.1,.int r.2.1,.str r.2.2]=D.tup [iN r.1.toNat,iN r.2.1.toNat,.str r.2.2];rw[mZ (h r hr).1,mZ (h r hr).2]
def VP(F:Fn):Prop:=∀(M:af)(f:Fm)(b:Int),Ao f->0<=b->b<=97->aQ (F [Ge f,.int b] M) λr M'=>r=.d (jb (VO f b))/\Ex M M'
theorem K6{G:bo}:VP (ah G 6 Ah):=by
 intro M f b hf b0 b1;have h4:=hf.l4;have Vb:f.ro.map Lp=(f.ro.map VN).map wb:=DB λr hr=>⟨(hf.ro r hr).a.1,(hf.ro r hr).b.1⟩;rw[bO];show dy G Ah [some (Ge f),some (.int b),none,none,none,none] M _ _ _ _;unfold Ah;nofun;refine⟨ae (bj rfl),?_⟩;nofun;have v0:(M++[.lst []])[M.length]?=some (.lst []):=a9;have f0:Ex M (M++[.lst []]):=(Ex.refl M).app;generalize hv:M.length=v at v0;have rQ:M.length<=v:=∅;generalize M++[.lst []]=M0 at v0 f0;unfold Ge;nofun;refine iR (ds:=f.ru.map RP) (λi ρ M'=>∃o3 o4 o5,ρ=[some (Ge f),some (.int b),some (.aB v),o3,o4,o5]/\M'[v]?=some (.lst ((f.ru.take i).map λr=>mV (K3 b r)))/\Ex M M') ⟨_,_,_,rfl,v0,f0⟩ ?_ ?_
 ·rintro i ρ M1 d hd ⟨o3,o4,o5,rfl,v1,f1⟩;obtain⟨r,hr,rfl⟩:=cN hd;obtain⟨h1,h2,h3⟩:=hf.ru i r hr;unfold RP;nofun;refine iT (ds:=r.2.map RO) (λj M' aA=>M'=M1/\aA=(r.2.take j).map λm=>jD (Lx b m)) (by decide) (λi M' aA h hi=>rfl) ⟨rfl,rfl⟩ ?_ ?_ rfl
  ·rintro j M' aA d hd ⟨rfl,rfl⟩;obtain⟨m,hm,rfl⟩:=cN hd;have VQ:=h3 m (cT hm);refine⟨aP (by rw[aR,fT];omega),?_⟩;unfold RO;nofun;refine⟨ae (bj rfl),?_⟩;nofun;rw[show cutD [D.int m.s,.str m.c,.int m.a,.tup (m.sd.map pD),v_ m.w] (some 3) none=[.tup (m.sd.map pD),v_ m.w] from rfl];refine⟨ae (bj rfl),?_⟩;nofun;refine⟨rfl,?_⟩;rw[bJ hm,fA]
   have e:D.tup ([.int (m.s+b),.str m.c,.int (m.a+b)]++[.tup (m.sd.map pD),v_ m.w])=jD (Lx b m):=by
    rw[mZ (by have:=VQ.s;omega),mZ (by have:=VQ.a;omega),DA λp hp=>(VQ.sd p hp).2.1];rfl
   rw[e];rfl
  ·rintro M' aA ⟨rfl,rfl⟩;rw[aR,fy];nofun;refine⟨bA (bC v1),?_⟩;nofun;rw[cM a9];nofun;refine⟨ae (bj rfl),?_⟩;nofun;have l1:=(dq.mp hr).1;rw[bP (bC v1) (aP (by rw[aR,fT];omega))];nofun;refine⟨_,_,_,rfl,?_,f1.app.set rQ⟩
   have e:D.tup [.int (r.1+b),.tup (r.2.map λm=>jD (Lx b m))]=mV (K3 b r):=by
    rw[mZ ∅];show _=D.tup [iN (r.1+b).toNat,.tup ((r.2.map (Lx b)).map jD)];rw[kh];rfl
   rw[bb (bC v1),e,bJ hr,fA];rfl
 ·rintro ρ M1 ⟨o3,o4,o5,rfl,v1,f1⟩;rw[aR,fy]at v1;unfold Ge;nofun;rw[cM v1];nofun;refine⟨ae (bj rfl),?_,f1⟩;rw[Vb];show W.d (.tup [.tup (f.ru.map λr=>mV (K3 b r)),_])=W.d (.tup [.tup ((f.ru.map (K3 b)).map mV),_]);rw[show(f.ru.map (K3 b)).map mV=f.ru.map λr=>mV (K3 b r) by rw[kh];rfl];rfl
end Ev
end
section
namespace eU
open Ev PySem
abbrev Fu:=List D->af->bE W
abbrev c0(l:List Fu):=l
noncomputable def n0:List Str:=["thing"]
noncomputable def b0:List S:=[.ret (.dS [(.bi (.i_ .str) [0]),(.cmp .eq (.bi .len [0]) (.kn 1)),(.chain .le .le (.a8 (.str "a")) 0 (.a8 (.str "z")))])]
def f0:Fu:=ah (cv (c0 [])) 1 b0
abbrev c1(l:List Fu):=c0 (f0::l)
noncomputable def n1:List Str:=["thing"]
def b1:List S:=[.iff (.dJ [(.neg (.val (.bi (.i_ .str) [0]))),(.neg (.val (.chain .le .le (.kn 1) (.bi .len [0]) (.vF "LONGEST_WORD" 8))))]) [.ret (.a8 (.bl false))] [],.ret (.bi .all1 [(.comp .seq [0] [1] none (.call 0 [1]) [none,none])])]
def f1:Fu:=ah (cv (c1 [])) 1 b1
abbrev c2(l:List Fu):=c1 (f1::l)
noncomputable def n2:List Str:=["parts"]
def b2:List S:=[.ret (.vG " " (.comp .seq [0] [1] none (.bi .str1 [1]) [none,none]))]
def f2:Fu:=ah (cv (c2 [])) 1 b2
abbrev c3(l:List Fu):=c2 (f2::l)
noncomputable def n3:List Str:=["one","other"]
def b3:List S:=[.ret (.wj ":" 0 1)]
def f3:Fu:=ah (cv (c3 [])) 2 b3
abbrev c4(l:List Fu):=c3 (f3::l)
noncomputable def n4:List Str:=["parts"]
def b4:List S:=[.ret (.comp .seq [0] [1,2] none (.call 3 [1,2]) [none,none,none])]
def f4:Fu:=ah (cv (c4 [])) 1 b4
abbrev c5(l:List Fu):=c4 (f4::l)
noncomputable def n5:List Str:=["move","word"]
noncomputable def b5:List S:=[.asg [1] (.ite (.val (.cmp .isN (.ks 0 4) (.a8 .ba))) (.a8 (.str "-")) (.ks 0 4)),.ret (.call 2 [(.bin .add (.lst [(.a8 (.str "move")),(.ks 0 0),(.ks 0 1),(.ks 0 2),1]) (.call 4 [(.ks 0 3)]))])]
def f5:Fu:=ah (cv (c5 [])) 2 b5
abbrev c6(l:List Fu):=c5 (f5::l)
noncomputable def n6:List Str:=["form","lines","start","moves","move","one","other","order"]
def b6:List S:=[.asg [1] (.lst []),.cA [2,3] .seq [(.ks 0 0)] [.expr (.me .append 1 [(.call 2 [(.lst [(.a8 (.str "machine")),2])])]),.cA [4] .seq [3] [.expr (.me .append 1 [(.call 5 [4])])]],.cA [5,6,7] .seq [(.ks 0 1)] [.expr (.me .append 1 [(.call 2 [(.lst [(.a8 (.str "road")),5,6,7])])])],.ret 1]
def f6:Fu:=ah (cv (c6 [])) 8 b6
abbrev c7(l:List Fu):=c6 (f6::l)
noncomputable def n7:List Str:=["word","most"]
noncomputable def b7:List S:=[.iff (.dJ [(.neg (.val (.chain .le .le (.kn 1) (.bi .len [0]) 1))),(.neg (.val (.bi .all1 [(.comp .seq [0] [1] none (.cmp .O8 1 (.rB "FIGURES" "0123456789")) [none,none])])))]) [.never] [],.iff (.dS [(.val (.cmp .eq (.ks 0 0) (.a8 (.str "0")))),(.val (.cmp .ne 0 (.a8 (.str "0"))))]) [.never] [],.ret (.bi .kK [0])]
def f7:Fu:=ah (cv (c7 [])) 2 b7
abbrev c8(l:List Fu):=c7 (f7::l)
noncomputable def n8:List Str:=["word"]
def b8:List S:=[.ret (.call 7 [0,(.vF "MOST_FIGURES" 9)])]
def f8:Fu:=ah (cv (c8 [])) 1 b8
abbrev c9(l:List Fu):=c8 (f8::l)
noncomputable def n9:List Str:=["word"]
def b9:List S:=[.iff (.neg (.val (.call 0 [0]))) [.never] [],.ret 0]
def f9:Fu:=ah (cv (c9 [])) 1 b9
abbrev R8(l:List Fu):=c9 (f9::l)
noncomputable def ZG:List Str:=["word"]
noncomputable def W_:List S:=[.ret (.ite (.val (.cmp .eq 0 (.a8 (.str "own")))) 0 (.call 9 [0]))]
def ZH:Fu:=ah (cv (R8 [])) 1 W_
abbrev R9(l:List Fu):=R8 (ZH::l)
noncomputable def ZI:List Str:=["word"]
def Xa:List S:=[.iff (.val (.cmp .eq 0 (.a8 (.str "-")))) [.ret (.a8 .ba)] [],.iff (.neg (.val (.call 1 [0]))) [.never] [],.ret 0]
def ZJ:Fu:=ah (cv (R9 [])) 1 Xa
abbrev R_(l:List Fu):=R9 (ZJ::l)
noncomputable def ZK:List Str:=["word"]
def Xb:List S:=[.iff (.val (.cmp .fj 0 (.tup [(.a8 (.str "row")),(.a8 (.str "heap"))]))) [.never] [],.ret 0]
def ZL:Fu:=ah (cv (R_ [])) 1 Xb
abbrev Q5(l:List Fu):=R_ (ZL::l)
noncomputable def ZM:List Str:=["word","between","one_in","other_in","parts"]
noncomputable def Xc:List S:=[.asg [4] (.pH true 0 1),.ret (.tup [(.dM 2 [(101,8),(108,9),(115,10),(122,11),(129,12)] [(.ks 4 0)]),(.dM 3 [(101,8),(108,9),(115,10),(122,11),(129,12)] [(.ks 4 2)])])]
def ZN:Fu:=ah (cv (Q5 [])) 5 Xc
abbrev Sa(l:List Fu):=Q5 (ZN::l)
def ZO:List Str:=["word"]
noncomputable def Xd:List S:=[.ret (.call 13 [0,(.a8 (.str ":")),(.vH "number_in" 101),(.vH "sign_in" 108)])]
def ZP:Fu:=ah (cv (Sa [])) 1 Xd
abbrev Ly(l:List Fu):=Sa (ZP::l)
noncomputable def ZQ:List Str:=["words","readers","further","values","place","reader"]
def Xe:List S:=[.asg [3] (.lst []),.cA [4] .rng2 [(.kn 1),(.bi .len [0])] [.asg [5] (.ite (.val (.cmp .le 4 (.bi .len [1]))) (.sub 1 (.bin .sub 4 (.kn 1))) 2),.iff (.val (.cmp .isN 5 (.a8 .ba))) [.never] [],.iQ false (.me .append 3 [(.dM 5 [(101,8),(108,9),(115,10),(122,11),(129,12),(143,14)] [(.sub 0 4)])])],.iff (.val (.cmp .le (.bi .len [0]) (.bi .len [1]))) [.never] [],.ret 3]
def ZR:Fu:=ah (cv (Ly [])) 6 Xe
abbrev Sb(l:List Fu):=Ly (ZR::l)
noncomputable def ZS:List Str:=["lines","at"]
noncomputable def Xf:List S:=[.ret (.ite (.val (.cmp .lt 1 (.bi .len [0]))) (.sub (.pH false (.sub 0 1) (.a8 (.str " "))) (.kn 0)) (.a8 .ba))]
def ZT:Fu:=ah (cv (Sb [])) 2 Xf
abbrev Sd(l:List Fu):=Sb (ZT::l)
noncomputable def ZU:List Str:=["lines","at","name","readers","further"]
def Xg:List S:=[.iff (.val (.cmp .ne (.call 16 [0,1]) 2)) [.never] [],.iQ true (.call 15 [(.pH false (.sub 0 1) (.a8 (.str " "))),3,4])]
def ZV:Fu:=ah (cv (Sd [])) 5 Xg
abbrev Se(l:List Fu):=Sd (ZV::l)
noncomputable def ZW:List Str:=["starts","roads"]
noncomputable def Xh:List S:=[.iff (.val (.cmp .gt (.bi .len [1]) (.kn 0))) [.ret (.tup [(.a8 (.str "road"))])] [],.iff (.val (.cmp .gt (.bi .len [0]) (.kn 0))) [.ret (.tup [(.a8 (.str "machine")),(.a8 (.str "move")),(.a8 (.str "road"))])] [],.ret (.tup [(.a8 (.str "machine"))])]
def ZX:Fu:=ah (cv (Se [])) 2 Xh
abbrev Sf(l:List Fu):=Se (ZX::l)
noncomputable def ZY:List Str:=["lines","starts","moves","roads","at","name","values"]
def Xi:List S:=[.asg [1] (.lst []),.asg [2] (.lst []),.asg [3] (.lst []),.cA [4] .rng1 [(.bi .len [0])] [.asg [5] (.call 16 [0,4]),.iff (.val (.cmp .fj 5 (.call 18 [1,3]))) [.never] [],.asg [6] (.call 17 [0,4,5,(.sub (.iA "FORM_WORDS" [(("machine" : Str),[101],none),(("move" : Str),[101,115,101,122],some 143),(("road" : Str),[101,101,129],none)] 5) (.kn 0)),(.sub (.iA "FORM_WORDS" [(("machine" : Str),[101],none),(("move" : Str),[101,115,101,122],some 143),(("road" : Str),[101,101,129],none)] 5) (.kn 1))]),.iff (.val (.cmp .eq 5 (.a8 (.str "machine")))) [.expr (.me .append 1 [(.ks 6 0)]),.expr (.me .append 2 [(.lst [])])] [.iff (.val (.cmp .eq 5 (.a8 (.str "move")))) [.expr (.me .append (.ks 2 (-1)) [(.tup [(.ks 6 0),(.ks 6 1),(.ks 6 2),(.bi .tuple1 [(.pG 6 (some (.kn 4)) none)]),(.ks 6 3)])])] [.expr (.me .append 3 [(.bi .tuple1 [6])])]]],.iff (.val (.cmp .eq (.bi .len [1]) (.kn 0))) [.never] [],.ret (.tup [(.bi .tuple1 [(.comp .zip [1,2] [1,2] none (.tup [1,(.bi .tuple1 [2])]) [none,none,none])]),(.bi .tuple1 [3])])]
def ZZ:Fu:=ah (cv (Sf [])) 7 Xi
abbrev Sg(l:List Fu):=Sf (ZZ::l)
noncomputable def Z0:List Str:=["_law_script"]
noncomputable def Xj:List S:=r6
def Z2:Fu:=ah (cv (Sg [])) 1 Xj
abbrev Sh(l:List Fu):=Sg (Z2::l)
noncomputable def Z3:List Str:=["_law_feed_here","_law_k"]
noncomputable def Xk:List S:=r8
def Z4:Fu:=ah (cv (Sh [])) 2 Xk
abbrev Si(l:List Fu):=Sh (Z4::l)
noncomputable def Z5:List Str:=["_law_feed_here","_law_many","_law_cell","_law_turn","_law_mixed"]
def Xl:List S:=r_
def Z6:Fu:=ah (cv (Si [])) 5 Xl
abbrev Sj(l:List Fu):=Si (Z6::l)
noncomputable def Z7:List Str:=["_law_feed_here","_law_m","_law_state","_law_cause","_law_roads","_law_k","_law_begins","_law_sends","_law_word"]
noncomputable def Xm:List S:=se 22
def Z8:Fu:=ah (cv (Sj [])) 9 Xm
abbrev Sk(l:List Fu):=Sj (Z8::l)
noncomputable def Z9:List Str:=["_law_feed_here","_law_many","_law_roads","_law_k","_law_one","_law_other","_law_rules","_law_m","_law_moves","_law_state","_law_cause","_law_move_here"]
noncomputable def Xn:List S:=sg 21 22 23
def Z_:Fu:=ah (cv (Sk [])) 12 Xn
abbrev Sl(l:List Fu):=Sk (Z_::l)
noncomputable def n25:List Str:=["_law_form_here","_law_by","_law_rules","_law_start","_law_moves","_law_some"]
noncomputable def Xo:List S:=[.asg [2] (.lst []),.cA [3,4] .seq [(.ks 0 0)] [.jV 5 (.comp .seq [4] [1] none (.bin .add (.tup [(.bin .add (.ks 1 0) 2),(.ks 1 1),(.bin .add (.ks 1 2) 2)]) (.pG 1 (some (.kn 3)) none)) [none,none,some 1]),.expr (.me .append 2 [(.tup [(.bin .add 3 1),(.bi .tuple1 [5])])])],.ret (.tup [(.bi .tuple1 [2]),(.ks 0 1)])]
def f25:Fu:=ah (cv (Sl [])) 6 Xo
abbrev Sn(l:List Fu):=Sl (f25::l)
noncomputable def n26:List Str:=["_law_words"]
def Xp:List S:=[.ret (.vG " " (.comp .seq [0] [1] none (.bi .str1 [1]) [none,none]))]
def f26:Fu:=ah (cv (Sn [])) 1 Xp
abbrev So(l:List Fu):=Sn (f26::l)
noncomputable def n27:List Str:=["_law_pairs"]
noncomputable def Xq:List S:=[.ret (.comp .seq [0] [1,2] none (.cat (.cat (.bi .str1 [1]) (.a8 (.str ":"))) (.bi .str1 [2])) [none,none,none])]
def f27:Fu:=ah (cv (So [])) 1 Xq
abbrev Sq(l:List Fu):=So (f27::l)
noncomputable def n28:List Str:=["_law_form_here","_law_lines","_law_start","_law_moves","_law_state","_law_cause","_law_later","_law_sends","_law_word","_law_spoken","_law_one","_law_other","_law_order"]
def Xr:List S:=[.asg [1] (.lst []),.cA [2,3] .seq [(.ks 0 0)] [.expr (.me .append 1 [(.cat (.a8 (.str "machine ")) (.bi .str1 [2]))]),.cA [4,5,6,7,8] .seq [3] [.asg [9] (.ite (.val (.cmp .isN 8 (.a8 .ba))) (.a8 (.str "-")) 8),.expr (.me .append 1 [(.call 26 [(.bin .add (.lst [(.a8 (.str "move")),4,5,6,9]) (.call 27 [7]))])])]],.cA [10,11,12] .seq [(.ks 0 1)] [.expr (.me .append 1 [(.call 26 [(.lst [(.a8 (.str "road")),10,11,12])])])],.ret 1]
def f28:Fu:=ah (cv (Sq [])) 13 Xr
abbrev Q6(l:List Fu):=Sq (f28::l)
def n29:List Str:=["_law_found","_law_due"]
noncomputable def Xs:List S:=[.iff (.val (.bi (.i_ .tuple) [1])) [.iff (.dJ [(.neg (.val (.bi (.i_ .tuple) [0]))),(.val (.cmp .ne (.bi .len [0]) (.bi .len [1])))]) [.ret (.a8 (.bl false))] [],.ret (.bi .all1 [(.comp .zip [0,1] [1,2] none (.call 29 [1,2]) [none,none,none])])] [],.iff (.val (.cmp .isN 1 (.a8 .ba))) [.ret (.cmp .isN 0 (.a8 .ba))] [],.iff (.val (.bi (.i_ .str) [1])) [.ret (.dS [(.bi (.i_ .str) [0]),(.cmp .eq 0 1)])] [],.ret (.dS [(.bi (.i_ .int) [0]),(.neg (.bi (.i_ .bool) [0])),(.cmp .eq 0 1)])]
def f29:Fu:=qd (Q6 []) 2 Xs 9
abbrev Sr(l:List Fu):=Q6 (f29::l)
noncomputable def n30:List Str:=["_law_script","_law_feed_here","_law_form_here","_law_start","_law_one","_law_lines","_law_found","_law_again"]
noncomputable def Q7:List S:=[.asg [1] (.call 20 [0]),.asg [2] (.call 24 [1]),.expr (.call 21 [1,(.kn 6)]),.asg [2] (.call 25 [2,(.sub (.lst [(.kn 0),(.kn 0),(.kn 8),(.kn 97)]) (.call 22 [1,(.kn 4)]))]),.asg [3] (.call 22 [1,(.kn 100)]),.cA [4] .seq [(.lst [2,(.tup [(.tup [(.tup [3,(.tup [])])]),(.tup [])]),(.tup [(.ks 2 0),(.tup [])])])] [.iff (.dS [(.val (.cmp .eq (.ks 4 1) (.tup []))),(.val (.cmp .eq (.ks 4 0) (.ks 2 0)))]) [.asg [4] (.tup [(.bi .tuple1 [(.comp .seq [(.ks 4 0)] [1] none (.tup [(.ks 1 0),(.bi .tuple1 [(.comp .seq [(.ks 1 1)] [1] none (.bin .add (.pG 1 none (some (.kn 3))) (.tup [(.tup []),(.ks 1 4)])) [none,none])])]) [none,none])]),(.tup [])])] [],.asg [5] (.call 28 [4]),.asg [6] (.call 6 [4]),.iff (.dJ [(.neg (.val (.bi (.i_ .list) [6]))),(.val (.cmp .ne 6 5))]) [.ret (.a8 (.bl false))] [],.asg [7] (.call 19 [6]),.iff (.dJ [(.neg (.val (.call 29 [7,4]))),(.val (.cmp .ne 6 5))]) [.ret (.a8 (.bl false))] [],.expr (.me .clear 6 []),.iff (.val (.cmp .ne (.call 6 [4]) 5)) [.ret (.a8 (.bl false))] []],.ret (.a8 (.bl true))]
def Q8:Fu:=ah (cv (Sr [])) 8 Q7
noncomputable def gs:List (Str×Int):=[(("LONGEST_WORD" : Str),8),(("MOST_FIGURES" : Str),9)]
noncomputable def fs:List (Str×Nat):=[(("is_sign" : Str),1),(("is_word" : Str),1),(("in_blanks" : Str),1),(("pair_text" : Str),2),(("pairs" : Str),1),(("move_line" : Str),1),(("form_lines" : Str),1),(("figures_in" : Str),2),(("number_in" : Str),1),(("sign_in" : Str),1),(("cause_in" : Str),1),(("word_in" : Str),1),(("order_in" : Str),1),(("pair_in" : Str),4),(("send_in" : Str),1),(("values_in" : Str),3),(("first_word" : Str),2),(("line_values" : Str),5),(("names_open" : Str),2),(("read_form" : Str),1),(("_law_feed" : Str),1),(("_law_open" : Str),2),(("_law_draw" : Str),2),(("_law_move" : Str),5),(("_law_form" : Str),1),(("_law_shifted" : Str),2),(("_law_line" : Str),1),(("_law_signed" : Str),1),(("_law_form_lines" : Str),1),(("_law_alike" : Str),2),(("law" : Str),1)]
end eU
end
section
namespace eU
open L2 Ev PySem PySem.Spec PyProof.Rows
def bm(y:Nm):Nm:={y with sd:=[]}
def br(r:Nat×List Nm):Nat×List Nm:=(r.1,r.2.map bm)
def bare(f:Nf):Nf:=⟨f.ru.map br,[]⟩
theorem DC{f:Nf}(h:fJ f):fJ (bare f):=by
 refine⟨?_,?_,lX _,?_,λr m=>by cases m⟩
 ·show 1<=(f.ru.map _).length;rw[aR];exact h.l1
 ·show(f.ru.map _).length<=4;rw[aR];exact h.l4
 ·intro r m;obtain⟨x,hx,rfl⟩:=dR.mp m;obtain⟨a,b,c⟩:=h.ru x hx;refine⟨a,by show(x.2.map _).length<=28;rw[aR];exact b,λy hy=>?_⟩;obtain⟨z,hz,rfl⟩:=dR.mp hy;exact {c z hz with l:=lX _,sd:=λp hp=>by cases hp}
theorem AG{f:Nf}(h:fJ f):fJ ⟨f.ru,[]⟩:=⟨h.l1,h.l4,lX _,h.ru,λr m=>by cases m⟩
theorem K7{n:Nat}(h:n<100):fJ ⟨[(n,[])],[]⟩:=⟨a7 _,show 1<=4 by decide,lX _,λr m=>by
 rw[gG.mp m];exact⟨by show n<_;omega,lX _,λy hy=>by cases hy⟩,λr m=>by cases m⟩
noncomputable def K8:List S:=[.asg [5] (.call 28 [4]),.asg [6] (.call 6 [4]),.iff (.dJ [(.neg (.val (.bi (.i_ .list) [6]))),(.val (.cmp .ne 6 5))]) [.ret (.a8 (.bl false))] [],.asg [7] (.call 19 [6]),.iff (.dJ [(.neg (.val (.call 29 [7,4]))),(.val (.cmp .ne 6 5))]) [.ret (.a8 (.bl false))] [],.expr (.me .clear 6 []),.iff (.val (.cmp .ne (.call 6 [4]) 5)) [.ret (.a8 (.bl false))] []]
theorem AH{G:bo}(hL:Gj (G 28))(hP:Gj (G 6))(hR:R5 (G 19))(hA:qE 8 (G 29)){M:af}{f:Nf}(hf:fJ f){e0 e1 e2 e3 o5 o6 o7:Option D}{nx bk ct:En->af->Prop}{rt:W->af->Prop}(q:∀M' o5 o6 o7,nx [e0,e1,e2,e3,some (jb f),o5,o6,o7] M'):dy G K8 [e0,e1,e2,e3,some (jb f),o5,o6,o7] M nx rt bk ct:=by
 unfold K8;nofun;refine(hL M f hf).imp ?_;rintro r M1 ⟨a,rfl,ha,WR,g1⟩;nofun;refine(hP M1 f hf).imp ?_;rintro r M2 ⟨b,rfl,hb,hbl,g2⟩;have Xu:gL M2 a (cy f):=Ex.get g2 ha;have VR:gL M2 b (cy f):=hb;have WA:a<b:=by have:=bx ha;omega
 nofun;rw[Dy hb];nofun;rw[sL VR Xu (oE hf)];nofun;refine(hR M2 b f hf VR).imp ?_;rintro r M3 ⟨rfl,g3⟩;nofun;refine(hA M3 _ hf.pg.2.2).imp ?_;rintro r M4 ⟨rfl,g4⟩;have g:=Ex.trans g3 g4;have Xv:gL M4 a (cy f):=Ex.get g Xu;have Q4:gL M4 b (cy f):=Ex.get g VR;nofun;rw[sL Q4 Xv (oE hf)];nofun;refine⟨bA Q4,?_⟩;nofun;rw[Ds Q4];nofun;have ha5:gL (M4.set b (.lst [])) a (cy f):=aJ Xv ∅;refine(hP _ f hf).imp ?_;rintro r M6 ⟨c,rfl,hc,RJ,g6⟩;nofun;rw[sL (show gL M6 c (cy f) from hc) (Ex.get g6 ha5) (oE hf)];nofun;exact q _ _ _ _
theorem K9{G:bo}(Q9:sh (G 20))(Q_:lO (G 21))(hD:ic (G 22))(Ra:sv (G 24))(hS:VP (G 25))(hL:Gj (G 28))(hP:Gj (G 6))(hR:R5 (G 19))(hA:qE 8 (G 29))(ns:List Int)(kG:ns.length<=63):aQ (ah G 8 Q7 [.ls (iD ns)] []) λr _=>r=.d (.bl true):=by
 rw[bO];show dy G Q7 [some (.ls (iD ns)),none,none,none,none,none,none,none] [] _ _ _ _;unfold Q7;nofun;refine(Q9 [] ns kG).imp ?_;rintro r M0 ⟨n,rfl,hw,g⟩;nofun;refine(Ra M0 n _ hw).imp ?_;rintro r M1 ⟨f,rfl,hf,QZ,f1⟩;nofun;refine(Q_ M1 n _ 6 QZ ∅).imp ?_;rintro r M2 ⟨rfl,Dq,f2⟩;nofun;refine⟨ae (bj rfl),?_⟩;nofun;refine(hD M2 n _ 4 Dq ∅ ∅ ∅).imp ?_;rintro r M3 ⟨i3,rfl,Q0,Vq,Lv,f3⟩
 obtain⟨d,hd,b,e,b0,b1⟩:=rZ (P:=λd=>∃j:Int,d=.int j/\0<=j/\j<=97) (ds:=[.int 0,.int 0,.int 8,.int 97]) (i:=i3) (k:=4) (by
  intro d hd;simp only[bw,oS,dH]at hd;rcases hd with rfl | rfl | rfl | rfl<;>exact⟨_,rfl,∅,∅⟩) Q0 Vq rfl
 subst e;nofun;rw[ib Q0 hd];nofun;refine(hS M3 f b hf b0 b1).imp ?_;rintro r M4 ⟨rfl,g4⟩;have hg:=K5 hf b0 b1;generalize VO f b=g at hg;nofun;refine(hD M4 n _ 100 (Lv.ex g4) ∅ ∅ ∅).imp ?_;rintro r M5 ⟨i5,rfl,WZ,W0,Lw,f5⟩;obtain⟨k,rfl⟩:∃k:Nat,i5=(k:Nat):=⟨i5.toNat,∅⟩;have hk:k<100:=∅;unfold jb;nofun;refine⟨ae (bj rfl),?_⟩;nofun;refine⟨ae (bj rfl),?_⟩;nofun;refine⟨ae (bj rfl),?_⟩;nofun;refine⟨ae (bj rfl),?_⟩;nofun;refine⟨ae (bj rfl),?_⟩;nofun;refine⟨ae (bj rfl),?_⟩;nofun;refine⟨ae (bj rfl),?_⟩;nofun;refine⟨ae (bj rfl),?_⟩;nofun
 have all:∀d∈[jb g,.tup [.tup [.tup [iN k,.tup []]],.tup []],.tup [.tup (g.ru.map mV),.tup []]],∃h,d=jb h/\fJ h:=λd m=>by
  simp only[bw,fM,dH]at m;rcases m with rfl | rfl | rfl
  ·exact⟨g,rfl,hg⟩
  ·exact⟨⟨[(k,[])],[]⟩,rfl,K7 hk⟩
  ·exact⟨⟨g.ru,[]⟩,rfl,AG hg⟩
 refine gu (ds:=[jb g,.tup [.tup [.tup [iN k,.tup []]],.tup []],.tup [.tup (g.ru.map mV),.tup []]]) (λi ρ M=>∃e0 e1 e3 o4 o5 o6 o7,ρ=[e0,e1,some (jb g),e3,o4,o5,o6,o7]) ⟨_,_,_,_,_,_,_,rfl⟩ ?_ ?_
 ·intro J nx rt up;rintro i ρ M6 d hd ⟨e0,e1,e3,o4,o5,o6,o7,rfl⟩;obtain⟨h,rfl,hh⟩:=all d (cT hd);unfold jb;nofun;refine⟨ae (bj rfl),?_⟩;nofun;obtain⟨c1,hc1⟩:=Gm (M:=M6) hh.pg.2.1 ((Pg.tup (h:=0) (ds:=[]) (λd m=>by cases m)).mono (show 1<=2 by decide)) (by decide);rw[hc1];have tl:∀(M:af) o5 o6 o7,dy G K8 [e0,e1,some (jb g),e3,some (jb h),o5,o6,o7] M (J (i+1)) rt nx (J (i+1)):=λM o5 o6 o7=>AH hL hP hR hA hh λM' o5 o6 o7=>up _ _ _ ⟨_,_,_,_,_,_,_,rfl⟩
  cases c1 with
  | false =>
   nofun;exact tl M6 o5 o6 o7
  | true =>
   nofun;obtain⟨c2,AM⟩:=Gm (M:=M6) hh.pg.1 hg.pg.1 (by decide);rw[AM]
   cases c2 with
   | false =>
    nofun;exact tl M6 o5 o6 o7
   | true =>
    nofun;refine iT (ds:=h.ru.map mV) (λi M' aA=>M'=M6/\aA=(h.ru.take i).map λr=>mV (br r)) (by decide) (λi M' aA _ hi=>rfl) ⟨rfl,rfl⟩ ?_ ?_ rfl
    ·rintro j M' aA d hd ⟨rfl,rfl⟩;obtain⟨r,hr,rfl⟩:=cN hd;obtain⟨_,Q2,rm⟩:=hh.ru r (cT hr);have h4:=hh.l4;refine⟨aP (by rw[aR,fT];omega),?_⟩;rw[show mV r=D.tup [iN r.1,.tup (r.2.map jD)] from rfl];nofun;refine iT (ds:=r.2.map jD) (λi Ki aA=>Ki=M'/\aA=(r.2.take i).map λy=>jD (bm y)) (by decide) (λi M' aA _ hi=>rfl) ⟨rfl,rfl⟩ ?_ ?_ rfl
     ·rintro t Ki aA d hd ⟨rfl,rfl⟩;obtain⟨y,hy,rfl⟩:=cN hd;refine⟨aP (by rw[aR,fT];omega),?_⟩;rw[show jD y=D.tup [iN y.s,.str y.c,iN y.a,.tup (y.sd.map qJ),v_ y.w] from rfl];nofun;refine⟨ae (bj rfl),?_⟩;nofun;refine⟨ae (bj rfl),?_⟩;nofun;rw[show cutD [iN y.s,.str y.c,iN y.a,.tup (y.sd.map qJ),v_ y.w] none (some 3)=[iN y.s,.str y.c,iN y.a] from rfl];refine⟨ae (bj rfl),?_⟩;nofun;exact⟨rfl,by rw[bJ hy,fA];rfl⟩
     ·rintro Ki aA ⟨rfl,rfl⟩;nofun;refine⟨ae (bj rfl),?_⟩;nofun;rw[aR,fy];refine⟨rfl,?_⟩;rw[bJ hr,fA];show _=_++[D.tup [iN r.1,.tup ((r.2.map bm).map jD)]];rw[kh];rfl
    ·rintro M' aA ⟨rfl,rfl⟩;nofun;refine⟨ae (bj rfl),?_⟩;nofun;refine⟨ae (bj rfl),?_⟩;nofun
     rw[aR,fy,show D.tup [.tup (h.ru.map λr=>mV (br r)),.tup []]=jb (bare h) by
      show _=D.tup [.tup ((h.ru.map br).map mV),.tup []];rw[kh];rfl]
     exact AH hL hP hR hA (DC hh) λM' o5 o6 o7=>up _ _ _ ⟨_,_,_,_,_,_,_,rfl⟩
 ·rintro ρ M6 ⟨e0,e1,e3,o4,o5,o6,o7,rfl⟩;rfl
theorem AI:∀ns:List Int,ns.length<=63->∃M,Q8 [.ls (ns.map D.int)] []=.ok (.d (.bl true)) M:=by
 intro ns kG;have h0:∀l,KL (cv (c1 l) 0):=λl=>Vs;have h0':∀l,Kj (cv (c1 l) 0):=λl=>U0;have h1:∀l,Vt (cv (c2 l) 1):=λl=>Zx (h0 _);have h2:∀l,AW " " (cv (c3 l) 2):=λl=>WL;have h3:∀l,US ":" (cv (c4 l) 3):=λl=>Y_;have h4:∀l,wc (cv (c5 l) 4):=λl=>Vy (h3 _);have h5:∀l,KU (cv (c6 l) 5):=λl=>Vz (h2 _) (h4 _);have h6:∀l,Gj (cv (c7 l) 6):=λl=>Zy (h2 _) (h5 _);have h7:∀l,Kh (cv (c8 l) 7):=λl=>UX;have h8:∀l,Dj 9 (cv (c9 l) 8):=λl=>UZ (h7 _);have h9:∀l,Dk (cv (R8 l) 9):=λl=>U1 (h0' _);have UY:∀l,KP (cv (R9 l) 10):=λl=>Vv (h9 _);have h11:∀l,KN (cv (R_ l) 11):=λl=>Vu (h1 _);have h12:∀l,KQ (cv (Q5 l) 12):=λl=>Vw;have h13:∀l,z_ (cv (Q5 [])) [(101,8),(108,9),(115,10),(122,11),(129,12)] (cv (Sa l) 13):=λl=>QE;have h14:∀l,KR (cv (Ly l) 14):=λl=>Vx (h13 _) rfl rfl (h8 _) (h9 _);have Oy:∀l,U2 (cv (Ly [])) [(101,8),(108,9),(115,10),(122,11),(129,12),(143,14)] (cv (Sb l) 15):=λl=>Za;have Xw:∀l,R4 (cv (Sd l) 16):=λl=>Zz;have h17:∀l,VD (cv (Ly [])) [(101,8),(108,9),(115,10),(122,11),(129,12),(143,14)] (cv (Se l) 17):=λl=>ZB (Xw _) (Oy _);have Lo:∀l,VF (cv (Sf l) 18):=λl=>ZC;have h19:∀l,R5 (cv (Sg l) 19):=λl=>ZD (aN:=101) (aC:=115) (aW:=122) (aO:=129) (aS:=143) (Xw _) (Lo _) (h17 _) λl hl=>VG (iN':=8) (iC:=10) (iW:=11) (iO:=12) (iS:=14) rfl rfl rfl rfl rfl (h8 _) (UY _) (h11 _) (h12 _) (h14 _) hl;have h20:∀l,sh (cv (Sh l) 20):=λl=>Ky;have RV:∀l,lO (cv (Si l) 21):=λl=>Kx;have Lu:∀l,ic (cv (Sj l) 22):=λl=>Kw;have RX:∀l,oC (cv (Sk l) 23):=λl=>KD (Lu _);have Vr:∀l,sv (cv (Sl l) 24):=λl=>KH (RV _) (Lu _) (RX _);have h25:∀l,VP (cv (Sn l) 25):=λl=>K6;have h26:∀l,AW " " (cv (So l) 26):=λl=>WL;have h27:∀l,wc (cv (Sq l) 27):=λl=>VA;have h28:∀l,Gj (cv (Q6 l) 28):=λl=>VB (h26 _) (h27 _);have h29:∀l,qE 8 (cv (Sr l) 29):=λl=>AF (Fs:=Q6 []) (k:=29) rfl 8;obtain⟨r,M,e,q⟩:=Jw (K9 (G:=cv (Sr [])) (h20 _) (RV _) (Lu _) (Vr _) (h25 _) (h28 _) (h6 _) (h19 _) (h29 _) ns kG);subst q;exact⟨M,e⟩
end eU
end
section
namespace eU
open L2 Ev PySem PySem.Spec PyProof.Rows
theorem nob{P:Params}{h:Heap}{mg:Str->Option Value}(X:(Kf P).In h)(G:h.Ns mainGlobals mg):∀b∈cD,mg b=none:=by
 have z:cD.all (λb=>match PySem.W.nsIn (Kf P) mainGlobals b with | some none=>true | _=>false)=true:=nofun;intro b hb;have q:=jN.mp z b hb;split at q
 ·rename_i e;exact PySem.W.mg_none_of X G e
 ·cases q
noncomputable def xg:XI:=⟨[],[],[],[],[(("number_in" : Str),101),(("sign_in" : Str),108),(("cause_in" : Str),115),(("word_in" : Str),122),(("order_in" : Str),129),(("send_in" : Str),143)],[(("FIGURES" : Str),("0123456789" : Str))],[(("FORM_WORDS" : Str),[(("machine" : Str),[101],none),(("move" : Str),[101,115,101,122],some 143),(("road" : Str),[101,101,129],none)])]⟩
theorem qF{P:Program}{w:World}{h:Heap}{mg:Str->Option Value}(X:(Kf w.params).In h)(G:h.Ns mainGlobals mg):WH P w (Kf w.params) mg xg:=by
 refine⟨λx a hm=>?_,λx v hm=>?_,λx tb hm=>?_⟩
 ·unfold xg at hm;simp only[bw,uR,fM,dH]at hm;rcases hm with⟨rfl,rfl⟩|⟨rfl,rfl⟩|⟨rfl,rfl⟩|⟨rfl,rfl⟩|⟨rfl,rfl⟩|⟨rfl,rfl⟩
  ·exact ie X G (nofun)
  ·exact ie X G (nofun)
  ·exact ie X G (nofun)
  ·exact ie X G (nofun)
  ·exact ie X G (nofun)
  ·exact ie X G (nofun)
 ·unfold xg at hm;simp only[bw,uR,fM,dH]at hm;rcases hm with⟨rfl,rfl⟩
  ·exact⟨295,ie X G (nofun)⟩
 ·unfold xg at hm;simp only[bw,uR,fM,dH]at hm;rcases hm with⟨rfl,rfl⟩
  ·exact Jv (es:=[(("machine" : Str),358,(.ref 146)),(("move" : Str),359,(.ref 148)),(("road" : Str),360,(.ref 150))]) (n:=3) X G (nofun) (by decide) (show(Kf w.params).lookup 144=some _ by kernel_rfl) ⋯ (nofun)
abbrev AL(l:PySem.W.OpenLaw)(w:World)(mg:Str->Option Value)(base:Heap)(k i:Nat):=All l.prog w (Kf w.params) mg base k (fs.take i)
theorem all_mk{l:PySem.W.OpenLaw}{w:World}{h:Heap}{mg:Str->Option Value}{fa:Addr}(X:(Kf w.params).In h)(G:h.Ns mainGlobals mg) (UE:mg "law" = some (.ref fa)):∃fd:FuncData,(∀(s:Shared)(v:Value),BindsTo s fd ⟨[v],[]⟩ [("_law_script",v)])/\∀base:Heap,(Kf w.params).In base->base.Ns mainGlobals mg->fR l.prog w (Kf w.params) mg base (vD l.prog w) 39 fa fd ["_law_script"] (wk (Kf w.params) 1 Q8):=by
 have W:Cw (Kf w.params) h mg gs:=⟨X,G,nob X G,Js X G (nofun)⟩;cases UE.symm.trans (ie X G (show PySem.W.nsIn (Kf w.params) mainGlobals "law" = some (some (.ref 248)) by kernel_rfl));refine⟨fq "law" GG m3 (.ref 247),λs v=>.of_eq rfl,λbase _ _=>?_⟩;have A0:AL l w mg base 0 0 []:=All.nil;have A1:AL l w mg base 1 1 (c1 []):=nx "is_sign" 53 VT n0 ["thing"] b0 m0 (.ref 52) W A0;have A2:AL l w mg base 2 2 (c2 []):=nx "is_word" 58 VU n1 ["thing"] b1 m0 (.ref 57) W A1;have A3:AL l w mg base 3 3 (c3 []):=nx "in_blanks" 77 VW n2 ["parts"] b2 m1 (.ref 76) W A2;have A4:AL l w mg base 4 4 (c4 []):=nx "pair_text" 89 VX n3 ["one","other"] b3 m1 (.ref 88) W A3;have A5:AL l w mg base 5 5 (c5 []):=nx "pairs" 82 VY n4 ["parts"] b4 m1 (.ref 81) W A4;have A6:AL l w mg base 6 6 (c6 []):=nx "move_line" 72 VZ n5 ["move"] b5 m1 (.ref 71) W A5;have A7:AL l w mg base 7 7 (c7 []):=nx "form_lines" 65 V0 n6 ["form"] b6 m1 (.ref 64) W A6;have A8:AL l w mg base 8 8 (c8 []):=Qb (xs:=xg) "figures_in" 94 V1 n7 ["word","most"] b7 m2 (.ref 93) W A7 (qF X G);have A9:AL l w mg base 9 9 (c9 []):=nx "number_in" 101 V2 n8 ["word"] b8 m2 (.ref 100) W A8;have A10:AL l w mg base 10 10 (R8 []):=nx "sign_in" 108 V3 n9 ["word"] b9 m2 (.ref 107) W A9;have A11:AL l w mg base 11 11 (R9 []):=nx "cause_in" 115 Lz ZG ["word"] W_ m2 (.ref 114) W A10;have A12:AL l w mg base 12 12 (R_ []):=nx "word_in" 122 LA ZI ["word"] Xa m2 (.ref 121) W A11;have A13:AL l w mg base 13 13 (Q5 []):=nx "order_in" 129 LB ZK ["word"] Xb m2 (.ref 128) W A12;have A14:AL l w mg base 14 14 (Sa []):=Qb (xs:=xg) "pair_in" 136 LC ZM ["word","between","one_in","other_in"] Xc m2 (.ref 135) W A13 (qF X G);have A15:AL l w mg base 15 15 (Ly []):=Qb (xs:=xg) "send_in" 143 LD ZO ["word"] Xd m2 (.ref 142) W A14 (qF X G);have A16:AL l w mg base 16 16 (Sb []):=Qb (xs:=xg) "values_in" 157 LF ZQ ["words","readers","further"] Xe m2 (.ref 156) W A15 (qF X G);have A17:AL l w mg base 17 17 (Sd []):=nx "first_word" 164 LG ZS ["lines","at"] Xf m2 (.ref 163) W A16;have A18:AL l w mg base 18 18 (Se []):=nx "line_values" 171 LH ZU ["lines","at","name","readers","further"] Xg m2 (.ref 170) W A17;have A19:AL l w mg base 19 19 (Sf []):=nx "names_open" 183 LI ZW ["starts","roads"] Xh m2 (.ref 182) W A18;have A20:AL l w mg base 20 20 (Sg []):=Qb (xs:=xg) "read_form" 176 LJ ZY ["lines"] Xi m2 (.ref 175) W A19 (qF X G);have A21:AL l w mg base 21 21 (Sh []):=nx "_law_feed" 190 LK Z0 ["_law_script"] Xj m3 (.ref 189) W A20;have A22:AL l w mg base 22 22 (Si []):=nx "_law_open" 197 LL Z3 ["_law_feed_here","_law_k"] Xk m3 (.ref 196) W A21;have A23:AL l w mg base 23 23 (Sj []):=nx "_law_draw" 204 LM Z5 ["_law_feed_here","_law_many"] Xl m3 (.ref 203) W A22;have A24:AL l w mg base 24 24 (Sk []):=nx "_law_move" 209 LN Z7 ["_law_feed_here","_law_m","_law_state","_law_cause","_law_roads"] Xm m3 (.ref 208) W A23;have A25:AL l w mg base 25 25 (Sl []):=nx "_law_form" 216 LO Z9 ["_law_feed_here"] Xn m3 (.ref 215) W A24;have A26:AL l w mg base 26 26 (Sn []):=nx "_law_shifted" 221 LP n25 ["_law_form_here","_law_by"] Xo m3 (.ref 220) W A25;have A27:AL l w mg base 27 27 (So []):=nx "_law_line" 226 LQ n26 ["_law_words"] Xp m3 (.ref 225) W A26;have A28:AL l w mg base 28 28 (Sq []):=nx "_law_signed" 231 LR n27 ["_law_pairs"] Xq m3 (.ref 230) W A27;have A29:AL l w mg base 29 29 (Q6 []):=nx "_law_form_lines" 238 LS n28 ["_law_form_here"] Xr m3 (.ref 237) W A28;have A30:AL l w mg base 38 30 (Sr []):=WI "_law_alike" 243 LU n29 ["_law_found","_law_due"] Xs m3 (.ref 242) W A29 (n:=9);exact rS "law" 248 GG n30 ["_law_script"] Q7 m3 (.ref 247) W A30 (nofun) (nofun) (nofun) ⋯
theorem K_{K:PySem.W.Frag}{H:Hp}{a:Addr}{xs:List V}(hO:BW H)(h:eF K H a xs):pF K H a xs:=by
 rcases h with(h | ⟨o,h⟩) | h
 ·rcases hO a with q | ⟨o,ys,q⟩
  ·rw[q]at h;cases h
  ·rw[q]at h;cases h
 ·exact .inl ⟨o,h⟩
 ·exact .inr h
theorem qG{K:PySem.W.Frag}{H:Hp}{ads:List Addr}:∀(ns:List Int),aH K ads H (ns.map D.int) (ns.map V.int)
 | []=>by unfold aH;rfl
 | i::ns=>by
  show aH K ads H (D.int i::ns.map D.int) (V.int i::ns.map V.int);unfold aH;exact⟨_,_,rfl,by unfold RD;rfl,qG ns⟩
theorem walk {l : PySem.W.OpenLaw} {q : Program} {loose : List Str} {XP : (Str -> Option Value) -> Heap -> Prop} {YP : World -> Heap -> Prop} {d : DefRec} {K : Params -> PySem.W.Frag} (VS : ∀ ns : List Int, ns.length <= 63 -> ∃ M, Q8 [.ls (ns.map D.int)] [] = .ok (.d (.bl true)) M) (hn : l.most = some 63) (OL : d.params.defaults = [])
    (hY:∀(w:World)(h:Heap),YP w h->(K w.params).In h)
    (F:∀(w:World)(mg:Str->Option Value)(fa:Addr)(h:Heap),(K w.params).In h->h.Ns mainGlobals mg->mg d.name=some (.ref fa) ->
      ∃fd:FuncData,(∀(s:Shared)(u:Value),BindsTo s fd ⟨[u],[]⟩ [("_law_script",u)])/\∀base:Heap,(K w.params).In base->base.Ns mainGlobals mg->fR l.prog w (K w.params) mg base (vD l.prog w) 39 fa fd ["_law_script"] (wk (K w.params) 1 Q8)) :
    PySem.W.WalkO q loose XP YP l.row.toRowW d [] (λf vs=>PySem.call f vs) :=
  L2.BX (n:=63) (k:=39) (x := "_law_script") (CX:=λw=>vD l.prog w) (sp:=λw=>wk (K w.params) 1 Q8) hn (by decide) OL ⟨rfl,by decide,by decide,rfl⟩ hY F (λw H a ns hl hO hS=>by
    obtain⟨M,hM⟩:=VS ns hl;refine⟨[],[],[.ls (ns.map D.int)],⟨λi j a e _=>by simp at e,rfl,λn o a e _=>by simp at e⟩,.one ?_,rfl,?_⟩
    · unfold RD;exact⟨a,_,rfl,K_ hO hS,qG ns⟩
    · rw[hM];intro v H' aq _ _ r;have r:RD (K w.params) aq H' (.bl true) v:=r;unfold RD at r;exact r) λ_ _ _ _ _ z=>z
end eU
end
end
open PySem PySem.W PyProof.Rows
set_option maxRecDepth 100000 in
set_option maxHeartbeats 0 in
theorem PySem.Challenge.cw_cutstand_k78_forms_written_holds : PySem.Challenge.rw_cutstand_k78_forms_written.Holds := by
 refine holds_law eU.G4 λG4=>?_;refine holds_open (q:=eU.vw) (loose:=["FORM_WORDS"]) (Xt:=λs=>xlAt eU.vw [] s&&recOk [] s) (XP:=XL eU.vw []) (Yf:=Hook.obs eU.hk) (Ya:=Hook.val eU.hk) (YP:=Hook.says eU.hk) (N:=3132) eU.XH (Hook.of eU.hk) (Hook.keeps eU.hk) (λs e=>xl_of s (Bool.and_eq_true_iff.mp e).1) XL.keeps (by rfl) (by rfl) (by rfl) (λs e=>recFacts_of (Bool.and_eq_true_iff.mp e).2) (by rfl) G4 ⋯ ⟨rfl,rfl,rfl,rfl,rfl,⋯⟩ ?hw ?hc
 case hw=>w_witness2
 case hc=>exact eU.walk (l:=PySem.Challenge.rw_cutstand_k78_forms_written) (K:=eU.Kf) eU.AI rfl rfl (λw h Y=>kIn_of Y) λw mg fa h KX G OM=>eU.all_mk KX G OM
#print axioms PySem.Challenge.cw_cutstand_k78_forms_written_holds
