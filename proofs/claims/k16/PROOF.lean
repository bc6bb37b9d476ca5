import PyProof.Rows.All
import KE.KDictOf
import KE.KIsAll
import KE.KEqDict
import KE.KFind
import KE.KxWritten
import Open.Tree
import PyProof.DictIter
import PyProof.DictWalks
import PyProof.DictTruth
import PyProof.MeetsSeq
import PyProof.DictValues
import PyProof.Rows.SortWalk
import PySem.Challenge.RW_cutstand_k16_refusals_apart
set_option Elab.async false
set_option linter.all false
set_option maxRecDepth 100000
set_option genSizeOf false
set_option genInjectivity false
set_option compiler.extract_closed false
set_option maxHeartbeats 4000000
local macro_rules
  | `(⋯) => `(by decide +kernel)
  | `(nofun) => `(by kernel_rfl)
  | `(∅) => `(by omega)
  | `(tactic| omega) => `(tactic| first | with_reducible assumption | decide +kernel | lia | omega (config := {}))
abbrev zqaa:=@Bool.false_ne_true
abbrev zqab:=@Bool.and_eq_true
abbrev zqac:=@List.lookup_cons
abbrev zqad:=@PySem.wpAny_bind
abbrev zqae:=@Nat.le_refl
abbrev zqaf:=@PySem.Heap.lt_size
abbrev zqag:=@Option.some.inj
abbrev zqah:=@PySem.Heap.get?_push_of_some
abbrev zqai:=@List.mem_cons_of_mem
abbrev zqaj:=@List.size_toArray
abbrev zqak:=@List.getElem?_eq_some_iff
abbrev zqal:=@List.getElem?_append_left
abbrev zqam:=@PySem.mem_of_lookup
abbrev zqan:=@List.mem_append_right
abbrev zqao:=@Nat.lt_of_lt_of_le
abbrev zqap:=@PySem.wpAny_loadPart_at
abbrev zqaq:=@List.mem_cons
abbrev zqar:=@List.mem_cons_self
abbrev zqas:=@PySem.wpAny_pure
abbrev zqat:=@Nat.le_trans
abbrev zqau:=@List.length_append
abbrev zqav:=@if_pos
abbrev zqaw:=@List.getElem?_append_right
abbrev zqax:=@if_neg
abbrev zqay:=@decide_eq_false
abbrev zqaz:=@List.length_map
abbrev zqa0:=@Bool.not_eq_true'
abbrev zqa1:=@PySem.F.store_ValueError
abbrev zqa2:=@List.length_cons
abbrev zqa3:=@PySem.W.mg_of
abbrev zqa4:=@Nat.ne_of_lt
abbrev zqa5:=@List.all_eq_true
abbrev zqa6:=@List.getElem?_eq_getElem
abbrev zqa7:=@PySem.Heap.get?_push_size
abbrev zqa8:=@beq_iff_eq
abbrev zqa9:=@PySem.W.kia_one
abbrev zqba:=@List.mem_of_getElem?
abbrev zqbb:=@PySem.Heap.get?_update_other
abbrev zqbc:=@PySem.F.attrBase_ValueError
abbrev zqbd:=@Ne.symm
abbrev zqbe:=@List.getElem?_set_ne
abbrev zqbf:=@List.getElem?_set_self
abbrev zqbg:=@List.getElem?_map
abbrev zqbh:=@List.find?_cons
abbrev zqbi:=@Option.some.injEq
abbrev zqbj:=@PySem.wpAny_execs_nil
abbrev zqbk:=@Nat.lt_irrefl
abbrev zqbl:=@PySem.wpAny_mono
abbrev zqbm:=@List.map_cons
abbrev zqbn:=@List.length_replicate
abbrev zqbo:=@decide_eq_true
abbrev zqbp:=@List.isEmpty_eq_false_iff
abbrev zqbq:=@Nat.le_of_lt
abbrev zqbr:=@List.mem_append_left
abbrev zqbs:=@List.append_nil
abbrev zqbt:=@Option.isSome_iff_exists
abbrev zqbu:=@decide_eq_true_eq
abbrev zqbv:=@List.replicate_succ
abbrev zqbw:=@List.isEmpty_iff
abbrev zqbx:=@List.mem_append
abbrev zqby:=@Array.getElem?_eq_some_iff
abbrev zqbz:=@PySem.wpAny_truthy_bool
abbrev zqb0:=@PySem.F.excBase_ValueError
abbrev zqb1:=@PySem.codeAny_call_builtin
abbrev zqb2:=@beq_eq_false_iff_ne
abbrev zqb3:=@PySem.wpAny_Call_Name_kw
abbrev zqb4:=@List.nodup_cons
abbrev zqb5:=@List.length_set
abbrev zqb6:=@congrArg
abbrev zqb7:=@List.flatten_cons
abbrev zqb8:=@List.append_assoc
abbrev zqb9:=@Nat.le_of_succ_le
abbrev zqca:=@PySem.codeAny_mono
abbrev zqcb:=@PySem.Heap.get?_update_self
abbrev zqcc:=@PySem.Heap.size_push
abbrev zqcd:=@PySem.wpAny_execs_cons
abbrev zqce:=@PySem.wpAny_holding
abbrev zqcf:=@if_true
abbrev zqcg:=@PySem.wpAny_passesOwn
abbrev zqch:=@PySem.tupleKind_room_in1
abbrev zqci:=@PySem.F.args_tuple_add_2
abbrev zqcj:=@Bool.false_eq_true
abbrev zqck:=@Int.emod_lt_of_pos
abbrev zqcl:=@List.getElem?_replicate
abbrev zqcm:=@PySem.F.entry_tuple_add
abbrev zqcn:=@PySem.W.cellsFrom_some
abbrev zqco:=@PySem.F.slot_tuple_add
abbrev zqcp:=@PySem.Heap.size_after_update
abbrev zqcq:=@Prod.mk.injEq
abbrev zqcr:=@PySem.wpAny_standAt
abbrev zqcs:=@List.any_cons
abbrev zqct:=@List.length_take
abbrev zqcu:=@Nat.lt_succ_self
abbrev zqcv:=@PySem.F.typeOf_object_class
abbrev zqcw:=@Iff.rfl
abbrev zqcx:=@PySem.Heap.get?_none_of_le
abbrev zqcy:=@List.of_mem_zip
abbrev zqcz:=@List.length_nil
abbrev zqc0:=@Nat.le_of_eq
abbrev zqc1:=@Nat.not_lt
abbrev zqc2:=@Bool.or_eq_true
abbrev zqc3:=@Int.emod_nonneg
abbrev zqc4:=@List.filterMap_cons
abbrev zqc5:=@PySem.W.callWith_K
abbrev zqc6:=@PySem.W.ns_none_of
abbrev zqc7:=@List.any_eq_false
abbrev zqc8:=@Option.isSome_map
noncomputable section
section
namespace L2
open PySem PySem.Spec PyProof.Rows
noncomputable def defArgs (s:Stmt):Arguments:=match s with
 | .FunctionDef _ a _ _ _ _ _ _ _ _=>a
 | _=>{ posonlyargs:=[],args:=[],vararg:=none,kwonlyargs:=[],kw_defaults:=[],kwarg:=none,defaults:=[] }
noncomputable def defBody (s:Stmt):List Stmt:=match s with
 | .FunctionDef _ _ b _ _ _ _ _ _ _=>b
 | _=>[]
noncomputable def defScope (s:Stmt):Scope:=match s with
 | .FunctionDef _ _ _ _ _ _ sc _ _ _=>sc
 | _=>{ kind:=.function,names:=[],isGenerator:=false,isCoroutine:=false }
abbrev VE:List Value:=[.type "ValueError",.type "Exception",.type "BaseException",.type "object"]
end L2
namespace Ev
open L2
open PySem PySem.Spec PyProof.Rows
abbrev fq (x:Str) (s:Stmt) (m c:Value):FuncData:=PySem.W.fnOf x x (defArgs s) (defBody s) (defScope s) .none .none .none m none c .none
noncomputable def fo (f:FuncData):Obj:=⟨.type "function",none,.func f,#[]⟩
end Ev
namespace Qk16
open L2 Ev PySem PySem.Spec PyProof.Rows
noncomputable def top (i:Nat):Stmt:=PySem.Challenge.pw_cutstand_k16_refusals_apart.main.body.getD i (.Pass ⟨0,0,0,0⟩)
abbrev tp0:=top 14
abbrev tp1:=top 15
abbrev tp2:=top 16
abbrev tp3:=top 17
abbrev tp4:=top 18
abbrev tp5:=top 19
abbrev tp6:=top 20
noncomputable def inn:Stmt->Stmt
 | .ClassDef _ _ _ b _ _ _ _ _ _ _=>b.getD 0 (.Pass ⟨0,0,0,0⟩)
 | s=>s
abbrev i44:=inn (top 2)
abbrev i63:=inn (top 3)
abbrev i82:=inn (top 4)
abbrev i101:=inn (top 5)
abbrev i120:=inn (top 6)
abbrev i139:=inn (top 7)
abbrev i158:=inn (top 8)
abbrev i177:=inn (top 9)
abbrev i196:=inn (top 10)
abbrev i215:=inn (top 11)
abbrev i234:=inn (top 12)
abbrev m0:Value:=(.str "law_cutstand_k16_refusals_apart" 498)
abbrev kl (nm:Str) (C N:Addr) (bs bm sub:List Value) (k0:Value) (t2 t3:Nat):Obj:=excClassObj nm nm C N bs bm true [] sub false none none (some k0) none (some (.str nm t2)) (some (.str nm t3)) (some (.bool true)) "ValueError.__new__"
abbrev m1:Value:=(.str "cutstand.errors" 187)
noncomputable def en (P:Params) (k:Str) (t:Nat) (v:Value):DictEntry:=⟨PyData.keyHash P k,.str k t,v⟩
noncomputable def co (a:Array Value):Obj:=⟨.type "code",none,.fields a,#[]⟩
def cp (n:Nat):Value:=.str "/claim/cut.py" n
def iv (n:Nat):Value:=.int n 0
def cf (a:Nat) (n:Str) (k l m y:Nat) (t:Stmt) (g:Value) (r:PySem.W.Frag):PySem.W.Frag:=(a,co #[.str n k,.str n (k+1),cp (k+2),iv l,iv m,iv 0,iv 0,iv 3,.ref (a - 5),.bool true,iv 181,.ref (a - 4),.none,.ref (a - 3),.ref (a - 2),.ref (a - 1),iv y,iv l,cp (y+1)])::(a+1,fo (fq n t g (.ref a)))::r
def Kf (P:Params):PySem.W.Frag:=List.cons (3,⟨(.type "dict"),none,.dict #[en P "__name__" 165 (.str "law_cutstand_k16_refusals_apart" 498),en P "__doc__" 166 .none,en P "__package__" 167 .none,en P "__loader__" 168 (.builtin "__main__.__loader__#opaque"),en P "__spec__" 169 .none,en P "__annotations__" 170 (.ref 6),en P "__builtins__" 171 (.ref 4),en P "__file__" 173 (cp 172),en P "__cached__" 174 .none,en P "CutError" 206 (.ref 24),en P "NoForm" 233 (.ref 44),en P "NoDeed" 258 (.ref 63),en P "NoCut" 285 (.ref 82),en P "NoTaking" 312 (.ref 101),en P "NoNumbers" 339 (.ref 120),en P "NoLine" 368 (.ref 139),en P "NoZigzag" 395 (.ref 158),en P "NoWorld" 422 (.ref 177),en P "NoRun" 447 (.ref 196),en P "NoText" 472 (.ref 215),en P "NoRow" 497 (.ref 234),en P "_law_well" 508 (.ref 243),en P "_law_draw" 520 (.ref 250),en P "_law_raised" 529 (.ref 257),en P "_law_fields" 537 (.ref 264),en P "_law_due" 547 (.ref 271),en P "_law_told" 559 (.ref 278),en P "law" 572 (.ref 285)] 28,#[]⟩) <| cf 242 "_law_well" 500 57 2 506 tp0 m0 <| cf 249 "_law_draw" 509 62 2 518 tp1 m0 <| cf 256 "_law_raised" 521 72 3 527 tp2 m0 <| cf 263 "_law_fields" 530 94 2 535 tp3 m0 <| cf 270 "_law_due" 538 110 3 545 tp4 m0 <| cf 277 "_law_told" 548 113 3 557 tp5 m0 <| cf 284 "law" 560 123 1 570 tp6 m0 <| [(24,kl "CutError" 24 23 [(.type "ValueError")] VE [(.ref 44),(.ref 63),(.ref 82),(.ref 101),(.ref 120),(.ref 139),(.ref 158),(.ref 177),(.ref 196),(.ref 215),(.ref 234)] (.ref 15) 189 197),(44,kl "NoForm" 44 43 [(.ref 24)] ((.ref 24)::VE) [] (.ref 28) 207 215),(63,kl "NoDeed" 63 62 [(.ref 24)] ((.ref 24)::VE) [] (.ref 47) 234 242),(82,kl "NoCut" 82 81 [(.ref 24)] ((.ref 24)::VE) [] (.ref 66) 259 267),(101,kl "NoTaking" 101 100 [(.ref 24)] ((.ref 24)::VE) [] (.ref 85) 286 294),(120,kl "NoNumbers" 120 119 [(.ref 24)] ((.ref 24)::VE) [] (.ref 104) 313 321),(139,kl "NoLine" 139 138 [(.ref 24)] ((.ref 24)::VE) [] (.ref 123) 340 348),(158,kl "NoZigzag" 158 157 [(.ref 24)] ((.ref 24)::VE) [] (.ref 142) 369 377),(177,kl "NoWorld" 177 176 [(.ref 24)] ((.ref 24)::VE) [] (.ref 161) 396 404),(196,kl "NoRun" 196 195 [(.ref 24)] ((.ref 24)::VE) [] (.ref 180) 423 431),(215,kl "NoText" 215 214 [(.ref 24)] ((.ref 24)::VE) [] (.ref 199) 448 456),(234,kl "NoRow" 234 233 [(.ref 24)] ((.ref 24)::VE) [] (.ref 218) 473 481),(43,⟨.type "dict",none,.dict #[en P "__module__" 214 (.str "cutstand.errors" 187),en P "__firstlineno__" 218 (.int 4 217),en P "__init__" 227 (.ref 41),en P "__static_attributes__" 230 (.ref 42),en P "__doc__" 231 .none] 2,#[]⟩),(62,⟨.type "dict",none,.dict #[en P "__module__" 241 (.str "cutstand.errors" 187),en P "__firstlineno__" 245 (.int 9 244),en P "__init__" 253 (.ref 60),en P "__static_attributes__" 255 (.ref 61),en P "__doc__" 256 .none] 2,#[]⟩),(81,⟨.type "dict",none,.dict #[en P "__module__" 266 (.str "cutstand.errors" 187),en P "__firstlineno__" 270 (.int 13 269),en P "__init__" 279 (.ref 79),en P "__static_attributes__" 282 (.ref 80),en P "__doc__" 283 .none] 2,#[]⟩),(100,⟨.type "dict",none,.dict #[en P "__module__" 293 (.str "cutstand.errors" 187),en P "__firstlineno__" 297 (.int 18 296),en P "__init__" 306 (.ref 98),en P "__static_attributes__" 309 (.ref 99),en P "__doc__" 310 .none] 2,#[]⟩),(119,⟨.type "dict",none,.dict #[en P "__module__" 320 (.str "cutstand.errors" 187),en P "__firstlineno__" 324 (.int 23 323),en P "__init__" 333 (.ref 117),en P "__static_attributes__" 336 (.ref 118),en P "__doc__" 337 .none] 2,#[]⟩),(138,⟨.type "dict",none,.dict #[en P "__module__" 347 (.str "cutstand.errors" 187),en P "__firstlineno__" 351 (.int 28 350),en P "__init__" 361 (.ref 136),en P "__static_attributes__" 365 (.ref 137),en P "__doc__" 366 .none] 2,#[]⟩),(157,⟨.type "dict",none,.dict #[en P "__module__" 376 (.str "cutstand.errors" 187),en P "__firstlineno__" 380 (.int 34 379),en P "__init__" 389 (.ref 155),en P "__static_attributes__" 392 (.ref 156),en P "__doc__" 393 .none] 2,#[]⟩),(176,⟨.type "dict",none,.dict #[en P "__module__" 403 (.str "cutstand.errors" 187),en P "__firstlineno__" 407 (.int 39 406),en P "__init__" 416 (.ref 174),en P "__static_attributes__" 419 (.ref 175),en P "__doc__" 420 .none] 2,#[]⟩),(195,⟨.type "dict",none,.dict #[en P "__module__" 430 (.str "cutstand.errors" 187),en P "__firstlineno__" 434 (.int 44 433),en P "__init__" 442 (.ref 193),en P "__static_attributes__" 444 (.ref 194),en P "__doc__" 445 .none] 2,#[]⟩),(214,⟨.type "dict",none,.dict #[en P "__module__" 455 (.str "cutstand.errors" 187),en P "__firstlineno__" 459 (.int 48 458),en P "__init__" 467 (.ref 212),en P "__static_attributes__" 469 (.ref 213),en P "__doc__" 470 .none] 2,#[]⟩),(233,⟨.type "dict",none,.dict #[en P "__module__" 480 (.str "cutstand.errors" 187),en P "__firstlineno__" 484 (.int 52 483),en P "__init__" 492 (.ref 231),en P "__static_attributes__" 494 (.ref 232),en P "__doc__" 495 .none] 2,#[]⟩),(23,⟨.type "dict",none,.dict #[en P "__module__" 196 (.str "cutstand.errors" 187),en P "__firstlineno__" 200 (.int 2 199),en P "__static_attributes__" 201 (.ref 22),en P "__weakref__" 203 (.ref 25),en P "__doc__" 204 .none] 3,#[]⟩),(40,co #[(.str "__init__" 219),(.str "NoForm.__init__" 220),(cp 221),(iv 6),(iv 3),(iv 0),(iv 0),(iv 3),(.ref 35),(.bool true),(iv 181),(.ref 36),.none,(.ref 37),(.ref 38),(.ref 39),(iv 225),(iv 6),(cp 226)]),(41,fo (PySem.W.fnOf "__init__" "NoForm.__init__" (defArgs i44) (defBody i44) (defScope i44) .none .none .none m1 none (.ref 40) .none)),(59,co #[(.str "__init__" 246),(.str "NoDeed.__init__" 247),(cp 248),(iv 11),(iv 2),(iv 0),(iv 0),(iv 3),(.ref 54),(.bool true),(iv 181),(.ref 55),.none,(.ref 56),(.ref 57),(.ref 58),(iv 251),(iv 11),(cp 252)]),(60,fo (PySem.W.fnOf "__init__" "NoDeed.__init__" (defArgs i63) (defBody i63) (defScope i63) .none .none .none m1 none (.ref 59) .none)),(78,co #[(.str "__init__" 271),(.str "NoCut.__init__" 272),(cp 273),(iv 15),(iv 3),(iv 0),(iv 0),(iv 3),(.ref 73),(.bool true),(iv 181),(.ref 74),.none,(.ref 75),(.ref 76),(.ref 77),(iv 277),(iv 15),(cp 278)]),(79,fo (PySem.W.fnOf "__init__" "NoCut.__init__" (defArgs i82) (defBody i82) (defScope i82) .none .none .none m1 none (.ref 78) .none)),(97,co #[(.str "__init__" 298),(.str "NoTaking.__init__" 299),(cp 300),(iv 20),(iv 3),(iv 0),(iv 0),(iv 3),(.ref 92),(.bool true),(iv 181),(.ref 93),.none,(.ref 94),(.ref 95),(.ref 96),(iv 304),(iv 20),(cp 305)]),(98,fo (PySem.W.fnOf "__init__" "NoTaking.__init__" (defArgs i101) (defBody i101) (defScope i101) .none .none .none m1 none (.ref 97) .none)),(116,co #[(.str "__init__" 325),(.str "NoNumbers.__init__" 326),(cp 327),(iv 25),(iv 3),(iv 0),(iv 0),(iv 3),(.ref 111),(.bool true),(iv 181),(.ref 112),.none,(.ref 113),(.ref 114),(.ref 115),(iv 331),(iv 25),(cp 332)]),(117,fo (PySem.W.fnOf "__init__" "NoNumbers.__init__" (defArgs i120) (defBody i120) (defScope i120) .none .none .none m1 none (.ref 116) .none)),(135,co #[(.str "__init__" 352),(.str "NoLine.__init__" 353),(cp 354),(iv 30),(iv 4),(iv 0),(iv 0),(iv 3),(.ref 130),(.bool true),(iv 181),(.ref 131),.none,(.ref 132),(.ref 133),(.ref 134),(iv 359),(iv 30),(cp 360)]),(136,fo (PySem.W.fnOf "__init__" "NoLine.__init__" (defArgs i139) (defBody i139) (defScope i139) .none .none .none m1 none (.ref 135) .none)),(154,co #[(.str "__init__" 381),(.str "NoZigzag.__init__" 382),(cp 383),(iv 36),(iv 3),(iv 0),(iv 0),(iv 3),(.ref 149),(.bool true),(iv 181),(.ref 150),.none,(.ref 151),(.ref 152),(.ref 153),(iv 387),(iv 36),(cp 388)]),(155,fo (PySem.W.fnOf "__init__" "NoZigzag.__init__" (defArgs i158) (defBody i158) (defScope i158) .none .none .none m1 none (.ref 154) .none)),(173,co #[(.str "__init__" 408),(.str "NoWorld.__init__" 409),(cp 410),(iv 41),(iv 3),(iv 0),(iv 0),(iv 3),(.ref 168),(.bool true),(iv 181),(.ref 169),.none,(.ref 170),(.ref 171),(.ref 172),(iv 414),(iv 41),(cp 415)]),(174,fo (PySem.W.fnOf "__init__" "NoWorld.__init__" (defArgs i177) (defBody i177) (defScope i177) .none .none .none m1 none (.ref 173) .none)),(192,co #[(.str "__init__" 435),(.str "NoRun.__init__" 436),(cp 437),(iv 46),(iv 2),(iv 0),(iv 0),(iv 3),(.ref 187),(.bool true),(iv 181),(.ref 188),.none,(.ref 189),(.ref 190),(.ref 191),(iv 440),(iv 46),(cp 441)]),(193,fo (PySem.W.fnOf "__init__" "NoRun.__init__" (defArgs i196) (defBody i196) (defScope i196) .none .none .none m1 none (.ref 192) .none)),(211,co #[(.str "__init__" 460),(.str "NoText.__init__" 461),(cp 462),(iv 50),(iv 2),(iv 0),(iv 0),(iv 3),(.ref 206),(.bool true),(iv 181),(.ref 207),.none,(.ref 208),(.ref 209),(.ref 210),(iv 465),(iv 50),(cp 466)]),(212,fo (PySem.W.fnOf "__init__" "NoText.__init__" (defArgs i215) (defBody i215) (defScope i215) .none .none .none m1 none (.ref 211) .none)),(230,co #[(.str "__init__" 485),(.str "NoRow.__init__" 486),(cp 487),(iv 54),(iv 2),(iv 0),(iv 0),(iv 3),(.ref 225),(.bool true),(iv 181),(.ref 226),.none,(.ref 227),(.ref 228),(.ref 229),(iv 490),(iv 54),(cp 491)]),(231,fo (PySem.W.fnOf "__init__" "NoRow.__init__" (defArgs i234) (defBody i234) (defScope i234) .none .none .none m1 none (.ref 230) .none))]
noncomputable def ads:List Addr:=[3,242,243,249,250,256,257,263,264,270,271,277,278,284,285,24,44,63,82,101,120,139,158,177,196,215,234,43,62,81,100,119,138,157,176,195,214,233,23,40,41,59,60,78,79,97,98,116,117,135,136,154,155,173,174,192,193,211,212,230,231]
def vw:Program:={ PySem.Challenge.pw_cutstand_k16_refusals_apart with main:={ PySem.Challenge.pw_cutstand_k16_refusals_apart.main with body:=[top 1,top 2,top 3,top 4,top 5,top 6,top 7,top 8,top 9,top 10,top 11,top 12,top 14,top 15,top 16,top 17,top 18,top 19,top 20] } }
def hk:PySem.W.Hook:=PySem.W.kHook Kf ads (fun _=>nofun)
open PySem.W in
theorem seg0 {tb:String->Option Builtin} {p:Program} {w:World} {n₀:Nat} {ann:Option Value}:∀ (n:Nat) (s:Shared) (t:Thread) (r:Flow×Shared×Code×Pos),segRun tb p w n₀ ann 0 n s t=some r->topRun tb p w n₀ ann n s t=some r.2.1
 | 0,s,t,r,h=>by rw [segRun.eq_def] at h;cases h
 | n+1,s,t,r,h=>by
  have te:through t=(endAt 0 t).isSome:=by
   unfold through endAt
   cases t.stack with
   | nil =>
    show (true && _)=_
    rw [Bool.true_and]
    generalize t.cur=c
    cases c with
    | pure x=>cases x <;> rfl
    | _=>rfl
   | cons x l =>
    show (false && _)=_
    rw [Bool.false_and]
    rfl
  rw [segRun.eq_def] at h
  rw [topRun.eq_def]
  simp only at h ⊢
  rw [te]
  cases e:endAt 0 t with
  | some f=>rw [e] at h;cases h;rfl
  | none =>
   rw [e] at h
   simp only [Option.isSome_none] at h ⊢
   cases k:stepOk n₀ ann t with
   | false=>rw [k] at h;cases h
   | true =>
    rw [k] at h
    simp only at h ⊢
    cases q:step (denote tb) p w s t with
    | go s' t'=>rw [q] at h;exact seg0 n s' t' r h
    | halt o s=>rw [q] at h;cases h
open PySem.W in
noncomputable def treeOf (l:List Obj):BT:=(l.foldl (fun (q:BT×Nat) o=>(q.1.ins q.2 o,q.2+1)) (BT.nil,0)).1
open PySem.W in
def stT (s:Shared):SharedT:=⟨treeOf s.heap.objs.toList,s.heap.objs.size,s.heap.life,s.gens,s.drawn,s.toks,s.os⟩
open PySem.W in
def runT (p:Program) (w:World) (N:Nat):Option (Shared×SharedT):=(fencedOpening treeTable p w N).bind fun s=>(segRunT treeTable p w s.heap.objs.size (s.heap.nsMap mainGlobals (Str.ofString "__annotations__")) 0 N (stT s) (topStub p)).map fun r=>(s,r.2.1)
open PySem.W in
theorem lft_of {p q:Program} {Xt:Shared->Bool} {α:Type} {Yf:Shared->α} {Ya:World->α} {N:Nat} (hA:∀ w,(runT p w N).map (fun s=>(openSeen q [] (importedModules p.main.body) Xt true s.2.abs,Yf s.2.abs))=some (openGood q [],Ya w)) (hB:∀ w,(runT p w N).map (fun s=>(s.1.heap.isNs mainGlobals && s.1.gens.size == 0,staticsOk (importedModules p.main.body) s.1.heap s.2.abs.heap && namesBound p s.2.abs.heap && gensDone s.2.abs && laidKept s.1.heap s.2.abs.heap))=some (true,true)) (hC:∀ w,(fencedOpening treeTable p w N).map (fun s=>(stT s).abs)=fencedOpening treeTable p w N):LeftO p q [] Xt Yf Ya N:=by
 intro w
 have hA:=hA w
 have hB:=hB w
 have hC:=hC w
 unfold runT at hA hB
 unfold openEnds
 cases hO:fencedOpening treeTable p w N with
 | none=>rw [hO] at hA;cases hA
 | some s =>
  rw [hO] at hA hB hC
  have hC:(stT s).abs=s:=zqag hC
  simp only [Option.bind_some] at hA hB ⊢
  cases hR:segRunT treeTable p w s.heap.objs.size (s.heap.nsMap mainGlobals (Str.ofString "__annotations__")) 0 N (stT s) (topStub p) with
  | none=>rw [hR] at hA;cases hA
  | some r =>
   obtain ⟨f,sT,c,q⟩:=r
   rw [hR] at hA hB
   have h1:=segRun_of hR
   rw [hC] at h1
   have h2:=seg0 _ _ _ _ h1
   simp only [Option.map_some,zqbi,zqcq] at hA hB
   unfold topFrom
   rw [hB.1]
   simp only [h2,Option.bind_some]
   rw [hB.2]
   simp only [Option.map_some,hA.1,hA.2]
theorem lfA:∀ w,(runT PySem.Challenge.pw_cutstand_k16_refusals_apart w 6410).map (fun s=>(PySem.W.openSeen vw [] (importedModules PySem.Challenge.pw_cutstand_k16_refusals_apart.main.body) (fun s=>PySem.W.xlAt vw [] s && PySem.W.recOk [] s) true s.2.abs,PySem.W.Hook.obs hk s.2.abs))=some (PySem.W.openGood vw [],PySem.W.Hook.val hk w):=by
 intro w
 kernel_rfl
theorem lfB:∀ w,(runT PySem.Challenge.pw_cutstand_k16_refusals_apart w 6410).map (fun s=>(s.1.heap.isNs mainGlobals && s.1.gens.size == 0,PySem.W.staticsOk (importedModules PySem.Challenge.pw_cutstand_k16_refusals_apart.main.body) s.1.heap s.2.abs.heap && PySem.W.namesBound PySem.Challenge.pw_cutstand_k16_refusals_apart s.2.abs.heap && PySem.W.gensDone s.2.abs && PySem.W.laidKept s.1.heap s.2.abs.heap))=some (true,true):=by
 intro w
 kernel_rfl
theorem lfC:∀ w,(PySem.W.fencedOpening treeTable PySem.Challenge.pw_cutstand_k16_refusals_apart w 6410).map (fun s=>(stT s).abs)=PySem.W.fencedOpening treeTable PySem.Challenge.pw_cutstand_k16_refusals_apart w 6410:=by
 intro w
 kernel_rfl
theorem lft:PySem.W.LeftO PySem.Challenge.pw_cutstand_k16_refusals_apart vw [] (fun s=>PySem.W.xlAt vw [] s && PySem.W.recOk [] s) (PySem.W.Hook.obs hk) (PySem.W.Hook.val hk) 6410:=lft_of lfA lfB lfC
end Qk16
end
section
namespace L2
open PySem PySem.Spec PyProof.Rows
abbrev Key:=Sum Int Str
noncomputable def keyIs:Key->Value->Bool
 | .inl k,v=>Value.isInt k v
 | .inr x,v=>Value.isStrOf x v
noncomputable def keyH (w:World):Key->Int
 | .inl k=>hashInt k
 | .inr x=>hashStr w x
theorem keyIs_shape:∀ {k:Key} {v:Value},keyIs k v=true->(∃ i t,k=Sum.inl i/\v=Value.int i t)\/(∃ x t,k=Sum.inr x/\v=Value.str x t)
 | .inl i,v,h=>by
  obtain ⟨t,e⟩:=Value.isInt_shape (k:=i) (v:=v) h
  exact .inl ⟨i,t,rfl,e⟩
 | .inr x,v,h=>by
  obtain ⟨t,e⟩:=Value.isStrOf_shape (x:=x) (v:=v) h
  exact .inr ⟨x,t,rfl,e⟩
theorem keyIs_int (i:Int) (t:Tok):keyIs (.inl i) (.int i t)=true:=by simp [keyIs,Value.isInt]
theorem keyIs_str (x:Str) (t:Tok):keyIs (.inr x) (.str x t)=true:=by simp [keyIs,Value.isStrOf]
theorem key_ll (a b:Int):decide ((Sum.inl a:Key)=Sum.inl b)=(a == b):=by
 by_cases e:a=b
 ·subst e;simp
 ·have h:¬ (Sum.inl a:Key)=Sum.inl b:=fun q=>e (Sum.inl.inj q)
  rw [zqay h]
  exact (zqb2.mpr e).symm
theorem key_rr (a b:Str):decide ((Sum.inr a:Key)=Sum.inr b)=decide (a=b):=by
 by_cases e:a=b
 ·subst e;simp
 ·have h:¬ (Sum.inr a:Key)=Sum.inr b:=fun q=>e (Sum.inr.inj q)
  rw [zqay h,zqay e]
theorem key_lr (a:Int) (b:Str):decide ((Sum.inl a:Key)=Sum.inr b)=false:=zqay (fun q=>nomatch q)
theorem key_rl (a:Str) (b:Int):decide ((Sum.inr a:Key)=Sum.inl b)=false:=zqay (fun q=>nomatch q)
def mixKind (prog:Program) (w:World):PySem.KeyKind prog w Key where
 is:=keyIs
 hash:=keyH w
 inj:=fun v a b ha hb=>by
  rcases keyIs_shape ha with ⟨i,t,rfl,rfl⟩|⟨x,t,rfl,rfl⟩
  ·rcases keyIs_shape hb with ⟨j,u,rfl,e⟩|⟨y,u,rfl,e⟩
   ·injection e with e1 _;rw [e1]
   ·exact nomatch e
  ·rcases keyIs_shape hb with ⟨j,u,rfl,e⟩|⟨y,u,rfl,e⟩
   ·exact nomatch e
   ·injection e with e1 _;rw [e1]
 byValue:=fun k v h=>by
  rcases keyIs_shape h with ⟨i,t,rfl,rfl⟩|⟨x,t,rfl,rfl⟩ <;> rfl
 pyHash:=fun hv h=>by
  rcases keyIs_shape hv with ⟨i,t,rfl,rfl⟩|⟨x,t,rfl,rfl⟩
  ·exact wpAny_pyHash_int h
  ·exact wpAny_pyHash_str h
 eqBool:=fun hu hv h=>by
  rcases keyIs_shape hu with ⟨i,t,rfl,rfl⟩|⟨x,t,rfl,rfl⟩
  ·rcases keyIs_shape hv with ⟨j,u,rfl,rfl⟩|⟨y,u,rfl,rfl⟩
   ·rw [key_ll] at h;exact wpAny_eqBool_int h
   ·rw [key_lr] at h;exact SeqAt.EqAt.int_str i t y u _ _ _ _ h
  ·rcases keyIs_shape hv with ⟨j,u,rfl,rfl⟩|⟨y,u,rfl,rfl⟩
   ·rw [key_rl] at h;exact SeqAt.EqAt.str_int x t j u _ _ _ _ h
   ·rw [key_rr] at h;exact wpAny_eqBool_str h
 «strs»:=fun k x t v h=>by
  rcases keyIs_shape h with ⟨i,u,rfl,e⟩|⟨y,u,rfl,e⟩
  ·exact nomatch e
  ·injection e with e1 _
   subst e1
   cases v <;> rfl
theorem mixKind_int (prog:Program) (w:World) (i:Int) (t:Tok):(mixKind prog w).is (.inl i) (.int i t)=true:=keyIs_int i t
theorem mixKind_str (prog:Program) (w:World) (x:Str) (t:Tok):(mixKind prog w).is (.inr x) (.str x t)=true:=keyIs_str x t
inductive V where
 | non | bl (b:Bool) | int (i:Int) | str (x:Str) | byt (b:Array UInt8) | flt (b:UInt64) | ref (a:Addr) | ty (n:String)
 deriving DecidableEq
noncomputable def RelV:V->Value->Prop
 | .non,u=>u=Value.none
 | .bl b,u=>u=Value.bool b
 | .int i,u=>∃ t,u=Value.int i t
 | .str x,u=>∃ t,u=Value.str x t
 | .byt b,u=>∃ t,u=Value.bytes b t
 | .flt b,u=>∃ t,u=Value.float b t
 | .ref a,u=>u=Value.ref a
 | .ty n,u=>u=Value.type n
abbrev Vals:List V->List Value->Prop:=Paired RelV
theorem Vals.length {xs:List V} {us:List Value} (r:Vals xs us):xs.length=us.length:=Paired.length r
theorem Vals.get:∀ {xs:List V} {us:List Value} {i:Nat} {x:V},Vals xs us->xs[i]?=some x->∃ u,us[i]?=some u/\RelV x u
 | _,_,_,_,.nil,e=>by simp at e
 | _,_,0,_,.cons r _,e=>by simp at e;subst e;exact ⟨_,rfl,r⟩
 | _,_,i+1,x,.cons _ t,e=>by
  obtain ⟨u,h1,h2⟩:=Vals.get (i:=i) (x:=x) t (by simpa using e)
  exact ⟨u,by simpa using h1,h2⟩
theorem Vals.set {x:V} {u:Value} (r:RelV x u):∀ {xs:List V} {us:List Value} (i:Nat),Vals xs us->Vals (xs.set i x) (us.set i u)
 | _,_,_,.nil=>.nil
 | _,_,0,.cons _ t=>.cons r t
 | _,_,i+1,.cons q t=>.cons q (Vals.set r i t)
theorem Vals.append:∀ {xs ys:List V} {us ws:List Value},Vals xs us->Vals ys ws->Vals (xs++ys) (us++ws)
 | _,_,_,_,.nil,s=>s
 | _,_,_,_,.cons r t,s=>.cons r (Vals.append t s)
def RelO:Option V->Option Value->Prop
 | some v,some u=>RelV v u
 | none,none=>True
 | _,_=>False
def KV {κ:Type}:List (κ×V)->List (κ×Value)->Prop:=Paired fun (p:κ×V) (q:κ×Value)=>p.1=q.1/\RelV p.2 q.2
def kV:Key->V
 | .inl i=>.int i
 | .inr x=>.str x
inductive HO where
 | lst (xs:List V)
 | tup (xs:List V)
 | dK (kvs:List (Key×V)) | dT (kvs:List (List Key×V))
 | set (S:Int->Bool) (n:Nat)
 | ins (C dx:Addr) (fs:List (Str×V))
 | own (x:Addr)
 | xd (fs:List (Str×V))
 | met (f x:Addr)
 | rng (lo hi:Int)
 | frz (o:Obj) (u:HO)
 | tbl (ps:Array Value)
 | ext (φ:Heap->Prop)
abbrev Hp:=Addr->Option HO
noncomputable def upd (H:Hp) (a:Addr) (o:HO):Hp:=fun b=>if b=a then some o else H b
theorem upd_same {H:Hp} {a:Addr} {o:HO}:upd H a o a=some o:=by unfold upd;rw [zqav rfl]
theorem upd_ne {H:Hp} {a b:Addr} {o:HO} (h:b≠a):upd H a o b=H b:=by unfold upd;rw [zqax h]
theorem ne_of {H:Hp} {a b:Addr} {o u:HO} (h:H a=some o) (h':H b=some u) (d:o≠u):a≠b:=by
 intro e;subst e;rw [h] at h';exact d (zqag h')
theorem ne_of_none {H:Hp} {a b:Addr} {o:HO} (h:H a=some o) (h':H b=none):a≠b:=by
 intro e;subst e;rw [h] at h';cases h'
section
variable (P:Program) (w:World)
def ObjOk (H:Hp) (h:Heap) (a:Addr):HO->Prop
  | .lst xs=>xs.length<=sizeLine/\∃ (its:List Value) (n:Nat),Vals xs its/\h.get? a=some { cls:=.type "list",data:=.seq its.toArray n }
  | .tup xs=>xs.length<=sizeLine/\∃ its:List Value,Vals xs its/\IsTup h a its.toArray
  | .dK kvs=>kvs.length<=sizeLine/\(a == sysModules)=false/\∃ vs,KV kvs vs/\h.DictOf (mixKind P w) a vs
  | .dT kvs => kvs.length <= sizeLine /\ (a == sysModules) = false /\ ∃ xs : List (List Key × Addr × Value),
      Paired (fun (p:List Key×V) (q:List Key×Addr×Value)=>p.1=q.1/\H q.2.1=some (.tup (p.1.map kV))/\RelV p.2 q.2.2) kvs xs /\
      ∃ o es ep,h.get? a=some o/\o.ExactDict/\o.data=.dict es ep/\es.toList=xs.map (entryOfKey (tupleKind (mixKind P w)))/\(xs.map (·.1)).Nodup
  | .set S n=>h.SetOf (intKind P w) a S n
  | .ins C dx fs => H dx = some (.own a) /\ fs.length <= 1000 /\ dx ≠ a /\ h.get? a = some (PySem.W.instObj C dx) /\
      ∃ mA,h.Ns1 dx mA/\(∀ f,RelO (fs.lookup f) (mA f))/\PySem.Within mA (fs.map (·.1))
  | .own _=>∃ o,h.get? a=some o
  | .xd fs=>∃ mA,h.Ns1 a mA/\∀ f,RelO (fs.lookup f) (mA f)
  | .rng lo hi=>∃ t u v,h.get? a=some { cls:=.type "range",data:=.fields #[.int lo t,.int hi u,.int 1 v] }
  | .frz o u=>h.get? a=some o/\ObjOk H h a u
  | .tbl ps=>h.get? a=some { cls:=.none,data:=.fields ps }
  | .met f x=>h.get? a=some (PySem.W.methodObj (.ref f) (.ref x))
  | .ext φ=>φ h/\(∃ o,h.get? a=some o)/\∀ h1 h2:Heap,φ h1->(∀ o,h1.get? a=some o->h2.get? a=some o)->φ h2
def HOk (H:Hp) (h:Heap):Prop:=∀ a o,H a=some o->ObjOk P w H h a o
end
section
variable {P:Program} {w:World} {H H':Hp} {h h':Heap} {a:Addr} {o:HO}
theorem ObjOk.lt (x:ObjOk P w H h a o):a < h.objs.size:=by
 cases o with
 | lst xs=>obtain ⟨_,_,_,_,e⟩:=x;exact zqaf e
 | tup xs=>obtain ⟨_,_,_,p⟩:=x;exact p.lt
 | dK kvs=>obtain ⟨_,_,_,_,o,_,_,e,_⟩:=x;exact zqaf e
 | dT kvs=>obtain ⟨_,_,_,_,o,_,_,e,_⟩:=x;exact zqaf e
 | set S n=>obtain ⟨o,_,_,_,e,_⟩:=x;exact zqaf e
 | ins C dx fs=>obtain ⟨_,_,_,e,_⟩:=x;exact zqaf e
 | own y=>obtain ⟨_,e⟩:=x;exact zqaf e
 | xd fs=>obtain ⟨_,⟨_,_,_,e,_⟩,_⟩:=x;exact zqaf e
 | rng lo hi=>obtain ⟨_,_,_,e⟩:=x;exact zqaf e
 | frz ob u=>obtain ⟨e,_⟩:=x;exact zqaf e
 | tbl ps=>exact zqaf (show h.get? a=some _ from x)
 | met f y=>exact zqaf (show h.get? a=some _ from x)
 | ext φ=>obtain ⟨_,⟨_,e⟩,_⟩:=x;exact zqaf e
theorem Paired.mapP {α β:Type} {F G:α->β->Prop}:∀ {l₁:List α} {l₂:List β},Paired F l₁ l₂->(∀ a b,F a b->G a b)->Paired G l₁ l₂
 | _,_,.nil,_=>.nil
 | _,_,.cons r t,f=>.cons (f _ _ r) (Paired.mapP t f)
theorem ObjOk.stay (x:ObjOk P w H h a o) (k:∀ b u,(b=a\/H b=some (.own a))->h.get? b=some u->h'.get? b=some u) (ho:∀ b,H b=some (.own a)->H' b=some (.own a)) (ht:∀ b xs,H b=some (.tup xs)->H' b=some (.tup xs)):ObjOk P w H' h' a o:=by
 induction o with
 | lst xs=>obtain ⟨z,its,n,r,e⟩:=x;exact ⟨z,its,n,r,k _ _ (.inl rfl) e⟩
 | tup xs=>obtain ⟨z,its,r,ob,e,c⟩:=x;exact ⟨z,its,r,ob,k _ _ (.inl rfl) e,c⟩
 | dK kvs=>obtain ⟨z,y,vs,r,ob,es,ep,e,c⟩:=x;exact ⟨z,y,vs,r,ob,es,ep,k _ _ (.inl rfl) e,c⟩
 | dT kvs =>
  obtain ⟨z,y,xs,r,ob,es,ep,e,c⟩:=x
  exact ⟨z,y,xs,Paired.mapP r fun p q z=>⟨z.1,ht _ _ z.2.1,z.2.2⟩,ob,es,ep,k _ _ (.inl rfl) e,c⟩
 | set S n=>obtain ⟨ob,es,ep,t,e,c⟩:=x;exact ⟨ob,es,ep,t,k _ _ (.inl rfl) e,c⟩
 | ins C dx fs =>
  obtain ⟨d,z,ne,e,mA,⟨od,es,ep,e2,c⟩,r⟩:=x
  exact ⟨ho _ d,z,ne,k _ _ (.inl rfl) e,mA,⟨od,es,ep,k _ _ (.inr d) e2,c⟩,r⟩
 | own y=>obtain ⟨ob,e⟩:=x;exact ⟨ob,k _ _ (.inl rfl) e⟩
 | xd fs=>obtain ⟨mA,⟨od,es,ep,e,c⟩,r⟩:=x;exact ⟨mA,⟨od,es,ep,k _ _ (.inl rfl) e,c⟩,r⟩
 | rng lo hi=>obtain ⟨t,u,v,e⟩:=x;exact ⟨t,u,v,k _ _ (.inl rfl) e⟩
 | frz ob u ih=>obtain ⟨e,q⟩:=x;exact ⟨k _ _ (.inl rfl) e,ih q⟩
 | tbl ps =>
  have e:h.get? a=some { cls:=.none,data:=.fields ps }:=x
  show h'.get? a=some { cls:=.none,data:=.fields ps }
  exact k a _ (.inl rfl) e
 | met f y =>
  have e:h.get? a=some (PySem.W.methodObj (.ref f) (.ref y)):=x
  show h'.get? a=some (PySem.W.methodObj (.ref f) (.ref y))
  exact k a _ (.inl rfl) e
 | ext φ=>obtain ⟨p,⟨o,e⟩,st⟩:=x;exact ⟨st _ _ p fun o q=>k _ _ (.inl rfl) q,⟨o,k _ _ (.inl rfl) e⟩,st⟩
theorem HOk.lt (x:HOk P w H h) (e:H a=some o):a < h.objs.size:=(x a o e).lt
theorem HOk.fresh (x:HOk P w H h) (e:h.objs.size<=a):H a=none:=by
 cases q:H a with
 | none=>rfl
 | some u=>exact absurd (zqao (x.lt q) e) (zqbk _)
theorem HOk.kept (x:HOk P w H h) (k:∀ b u,h.get? b=some u->h'.get? b=some u):HOk P w H h':=fun a o e =>
 (x a o e).stay (fun b u _ q=>k b u q) (fun _ q=>q) fun _ _ q=>q
theorem HOk.laid (x:HOk P w H h) (k:∀ b u,h.get? b=some u->h'.get? b=some u) (hp:h.objs.size<=a) (new:ObjOk P w (upd H a o) h' a o):HOk P w (upd H a o) h':=fun b u e=>by
 have hn:=x.fresh hp
 by_cases hb:b=a
 ·subst hb;rw [upd_same] at e;cases e;exact new
 ·rw [upd_ne hb] at e
  exact (x b u e).stay (fun c v _ q=>k c v q) (fun c q=>by rw [upd_ne (ne_of_none q hn)];exact q) fun c xs q=>by rw [upd_ne (ne_of_none q hn)];exact q
end
noncomputable def Rd (H:Hp) (a:Addr) (u:HO):Prop:=H a=some u\/∃ o,H a=some (.frz o u)
theorem Rd.ok {P:Program} {w:World} {H:Hp} {h:Heap} {a:Addr} {u:HO} (r:Rd H a u) (x:HOk P w H h):ObjOk P w H h a u:=by
 rcases r with r | ⟨o,r⟩
 ·exact x a u r
 ·obtain ⟨_,q⟩:=x a _ r
  exact q
noncomputable def Mut:Option HO->Prop
 | some (.lst _)=>True
 | some (.dK _)=>True
 | some (.dT _)=>True
 | some (.set _ _)=>True
 | some (.ins _ _ _)=>True
 | some (.ext _)=>True
 | _=>False
section
variable {P:Program} {w:World} {H:Hp} {h h':Heap} {x e:Addr} {o':HO}
theorem HOk.write (ok:HOk P w H h) (mu:Mut (H x)) (he:e=x\/H e=some (.own x)) (k:∀ b u,b≠e->h.get? b=some u->h'.get? b=some u) (heo:∃ u,h'.get? e=some u) (new:ObjOk P w (upd H x o') h' x o'):HOk P w (upd H x o') h':=fun b u q=>by
 have nown:∀ c y,H c=some (.own y)->c≠x:=fun c y r z=>by subst z;rw [r] at mu;exact mu
 have ntup:∀ c xs,H c=some (.tup xs)->c≠x:=fun c xs r z=>by subst z;rw [r] at mu;exact mu
 by_cases hb:b=x
 ·subst hb;rw [upd_same] at q;cases q;exact new
 ·rw [upd_ne hb] at q
  by_cases hbe:b=e
  ·have q':H b=some (.own x):=by
    rcases he with z | z
    ·exact absurd (hbe.trans z) hb
    ·rw [hbe];exact z
   rw [q] at q';cases q'
   obtain ⟨v,hv⟩:=heo
   exact ⟨v,by rw [hbe];exact hv⟩
  ·refine (ok b u q).stay (fun c v hc r=>k c v ?_ r) (fun c r=>by rw [upd_ne (nown c b r)];exact r) fun c xs r=>by rw [upd_ne (ntup c xs r)];exact r
   rcases hc with rfl | hc
   ·exact hbe
   ·rintro rfl
    rcases he with z | z
    ·exact nown c b hc z
    ·rw [hc] at z;cases z;exact hb rfl
end
structure Un (fs ex:List Addr) (H H':Hp) (h h':Heap):Prop where
 keep:∀ b o,h.get? b=some o->H b=none->b∉fs->b∉ex->h'.get? b=some o
 slot:∀ b o,h.get? b=some o->H b=none->b∈fs->b∉ex->∃ sl,h'.get? b=some { o with slots:=sl }
 free:∀ b o,h.get? b=some o->H b=none->b∉ex->H' b=none
 there:∀ b o,h.get? b=some o->b∉ex->∃ o',h'.get? b=some o'
 tups:∀ b xs,H b=some (.tup xs)->H' b=some (.tup xs)
 frzs:∀ b o u,H b=some (.frz o u)->H' b=some (.frz o u)
 tbls:∀ b ps,H b=some (.tbl ps)->∃ more,H' b=some (.tbl (ps++more))
section
variable {fs fs' ex ex':List Addr} {H H1 H2:Hp} {h h1 h2 h':Heap} {a x e:Addr} {o:HO}
theorem Un.any (u:Un fs ex H H1 h h1) {b:Addr} {ob:Obj} (q:h.get? b=some ob) (n:H b=none) (hx:b∉ex):∃ sl,h1.get? b=some { ob with slots:=sl }:=by
 by_cases hb:b∈fs
 ·exact u.slot b ob q n hb hx
 ·exact ⟨ob.slots,u.keep b ob q n hb hx⟩
theorem Un.kept (k:∀ b u,h.get? b=some u->h'.get? b=some u):Un fs ex H H h h' :=
 ⟨fun b ob q _ _ _=>k b ob q,fun b ob q _ _ _=>⟨ob.slots,k b ob q⟩,fun _ _ _ n _=>n,fun b ob q _=>⟨ob,k b ob q⟩,fun _ _ q=>q,fun _ _ _ q=>q,fun _ ps q=>⟨#[],by rw [q];simp⟩⟩
theorem Un.refl:Un fs ex H H h h:=Un.kept fun _ _ q=>q
theorem Un.laid (k:∀ b u,h.get? b=some u->h'.get? b=some u) (hp:h.objs.size<=a) (hn:H a=none):Un fs ex H (upd H a o) h h' where
 keep:=fun b u q _ _ _=>k b u q
 slot:=fun b u q _ _ _=>⟨u.slots,k b u q⟩
 free:=fun b u q n _=>by rw [upd_ne (zqa4 (zqao (zqaf q) hp))];exact n
 there:=fun b u q _=>⟨u,k b u q⟩
 tups:=fun b xs q=>by rw [upd_ne (ne_of_none q hn)];exact q
 frzs:=fun b u xs q=>by rw [upd_ne (ne_of_none q hn)];exact q
 tbls:=fun b ps q=>⟨#[],by rw [upd_ne (ne_of_none q hn),q];simp⟩
theorem Un.write (mu:Mut (H x)) (he:e=x\/H e=some (.own x)) (k:∀ b u,b≠e->h.get? b=some u->h'.get? b=some u) (heo:∃ u,h'.get? e=some u):Un fs ex H (upd H x o) h h':=by
 have hx:∀ b,H b=none->b≠x:=fun b n z=>by subst z;rw [n] at mu;exact mu
 have hb:∀ b,H b=none->b≠e:=fun b n z=>by
  subst z
  rcases he with r | r
  ·exact hx b n r
  ·rw [n] at r;cases r
 have hm:∀ b u,H b=some u->¬ Mut (some u)->b≠x:=fun b u q nm z=>by subst z;rw [q] at mu;exact nm mu
 refine ⟨fun b u q n _ _=>k b u (hb b n) q,fun b u q n _ _=>⟨u.slots,k b u (hb b n) q⟩,fun b u q n _=>by rw [upd_ne (hx b n)];exact n,fun b u q _=>?_,
  fun b xs q=>by rw [upd_ne (hm b _ q fun z=>z)];exact q,fun b u xs q=>by rw [upd_ne (hm b _ q fun z=>z)];exact q,fun b ps q=>⟨#[],by rw [upd_ne (hm b _ q fun z=>z),q];simp⟩⟩
 by_cases hbe:b=e
 ·subst hbe;exact heo
 ·exact ⟨u,k b u hbe q⟩
end
noncomputable def trk (h:Heap) (H:Hp):List Addr:=(List.range h.objs.size).filter fun a=>(H a).isSome
def hidT (h:Heap) (H:Hp):Heap:=PySem.W.hideAll h (trk h H)
theorem hidT_size (h:Heap) (H:Hp):(hidT h H).objs.size=h.objs.size:=PySem.W.hideAll_size _ _
theorem hidT_get {h:Heap} {H:Hp} {b:Addr} {o:Obj} (e:h.get? b=some o) (n:H b=none):(hidT h H).get? b=some o :=
 PySem.W.hideAll_get _ e fun hm=>by
  have q:(H b).isSome=true:=(List.mem_filter.mp hm).2
  rw [n] at q;simp at q
theorem of_hidT {h:Heap} {H:Hp} {b:Addr} {o:Obj} (e:(hidT h H).get? b=some o):h.get? b=some o/\H b=none:=by
 have e':h.get? b=some o:=PySem.W.of_hideAll (trk h H) e
 refine ⟨e',?_⟩
 cases q:H b with
 | none=>rfl
 | some x =>
  have hm:b∈trk h H:=List.mem_filter.mpr ⟨List.mem_range.mpr (zqaf e'),by simp [q]⟩
  have z:(hidT h H).get? b=none:=PySem.W.hideAll_none (trk h H) hm
  rw [z] at e;cases e
noncomputable def allNews (g h:Heap) (L:Addr):List (Addr×Obj):=(List.range h.objs.size).filterMap fun a=>if a=L\/(g.get? a).isSome=true then none else (h.get? a).map fun o=>(a,o)
def rest (g h:Heap) (L d:Addr):List (Addr×Obj):=(allNews g h L).filter fun p=>decide (p.1≠d)
structure Mod (K:PySem.W.Frag) (mg:Str->Option Value) (base:Heap):Prop where
 kin:K.In base
 glob:base.Ns mainGlobals mg
 blt:∃ mb,base.Ns builtinsNs mb/\∀ x:Str,x ≠ "__name__" -> mb x=bootBuiltins x
 nolimit:base.NoLimit
structure Cx where
 prog:Program
 w:World
 K:PySem.W.Frag
 mg:Str->Option Value
 base:Heap
 A:Around
 N:List Str
 s₀:Shared
 H₀:Hp
 env:Env
 outer:List Env
 stack:List Env
 ex:List Addr
 fn:Str->Bool
 calm:Bool
 pn:List (Addr×Obj)
 xe:Value->Shared->Prop
def frs (l:List Env):List Addr:=l.filterMap (·.frame)
abbrev Cx.fs (X:Cx):List Addr:=frs X.outer
noncomputable def Vis (sc:Scope) (x:Str):Prop:=sc.names.lookup x=some .local\/sc.names.lookup x=some .cell\/sc.names.lookup x=some .free
noncomputable def Loc (sc:Scope) (x:Str):Prop:=sc.names.lookup x=some .local\/sc.names.lookup x=some .cell
noncomputable def Look (env:Env) (h:Heap) (m:Str->Option Value) (x:Str) (u:Value):Prop :=
 (env.kindOf x=some .local/\m x=some u)\/((env.kindOf x=some .cell\/env.kindOf x=some .free)/\∃ c,env.cells.lookup x=some c/\h.IsCell c (some u))
structure Cx.Ok (X:Cx):Prop where
 mod:Mod X.K X.mg X.base
 kind:X.env.scope.kind=.function
 glob:X.env.globals=mainGlobals
 blt:X.env.builtins=builtinsNs
 above:X.s₀.heap.objs.size<=X.env.locals
 inj:∀ x y c,X.env.cells.lookup x=some c->X.env.cells.lookup y=some c->x=y
 has:∀ x,(X.env.kindOf x=some .cell\/X.env.kindOf x=some .free)->∃ c,X.env.cells.lookup x=some c
 cab:∀ x c,X.fn x=true->X.env.cells.lookup x=some c->X.s₀.heap.objs.size<=c
 hd:X.calm=true->X.A.handled=none
 frames:X.A.frames=some X.stack
 stk:X.stack=X.outer\/(X.stack=X.env::X.outer/\X.env.frame=some X.env.locals)
 exf:∀ b∈X.ex,b≠X.env.locals/\∀ x c,X.env.cells.lookup x=some c->c≠b
 bs:∀ b o,X.base.get? b=some o->X.s₀.heap.get? b=some o/\X.H₀ b=none
 bsz:X.base.objs.size<=X.s₀.heap.objs.size
 noex:∀ b o,X.base.get? b=some o->b∉X.ex
 exfs:∀ b∈X.ex,b∉X.fs
 funs:X.s₀.heap.FunFrames X.base X.outer
 frf:∀ b∈X.fs,X.H₀ b=none
structure Inv (X:Cx) (pins:List (Addr×Obj)) (σ:List (Option V)) (H:Hp) (s:Shared):Prop where
 ok:X.Ok
 os:s.os=X.s₀.os
 bare:AllBare s.gens
 base:Un X.fs X.ex X.H₀ H X.s₀.heap s.heap
 loc:∃ m,s.heap.Ns X.env.locals m/\∀ (i:Nat) (x:Str) (v:V),X.N[i]?=some x->σ[i]?=some (some v)->Vis X.env.scope x->∃ u,RelV v u/\Look X.env s.heap m x u
 cell:∀ x c,X.env.cells.lookup x=some c->∃ v,s.heap.IsCell c v
 free:H X.env.locals=none
 freeC:∀ x c,X.env.cells.lookup x=some c->H c=none
 pin:∀ p∈X.pn++pins,s.heap.get? p.1=some p.2/\H p.1=none/\p.1≠X.env.locals/\p.1∉X.fs/\∀ v,p.2.data≠.cell v
 hok:HOk X.prog X.w H s.heap
 len:σ.length=X.N.length
section
variable {X:Cx} {pins:List (Addr×Obj)} {σ:List (Option V)} {H H':Hp} {s:Shared} {h':Heap}
theorem Cx.Ok.nofr (ok:X.Ok) {b:Addr} {o:Obj} (e:X.base.get? b=some o):b∉X.fs:=fun hb=>by
 have:=(ok.funs.mem hb).1
 rw [e] at this;cases this
theorem Inv.bs (I:Inv X pins σ H s):∀ b o,X.base.get? b=some o->s.heap.get? b=some o/\H b=none:=fun b o e =>
 ⟨I.base.keep b o (I.ok.bs b o e).1 (I.ok.bs b o e).2 (I.ok.nofr e) (I.ok.noex b o e),I.base.free b o (I.ok.bs b o e).1 (I.ok.bs b o e).2 (I.ok.noex b o e)⟩
theorem Inv.bk (I:Inv X pins σ H s):∀ b o,X.base.get? b=some o->s.heap.get? b=some o:=fun b o e=>(I.bs b o e).1
theorem Inv.mod (I:Inv X pins σ H s):Mod X.K X.mg X.base:=I.ok.mod
theorem Inv.kIn (I:Inv X pins σ H s):X.K.In s.heap:=I.ok.mod.kin.keeps I.bk
theorem Inv.lt (I:Inv X pins σ H s):X.env.locals < s.heap.objs.size:=let ⟨_,hn,_⟩:=I.loc;hn.lt
theorem Inv.sz (I:Inv X pins σ H s):X.s₀.heap.objs.size<=s.heap.objs.size:=zqat I.ok.above (zqbq I.lt)
theorem Inv.nofs (I:Inv X pins σ H s) {a:Addr} (h:s.heap.objs.size<=a):a∉X.fs:=fun hb=>by
 obtain ⟨_,o,ho,_⟩:=I.ok.funs.mem hb
 exact absurd (zqao (zqaf ho) (zqat I.sz h)) (zqbk _)
theorem Inv.cne (I:Inv X pins σ H s):∀ x c,X.env.cells.lookup x=some c->c≠X.env.locals:=fun x c e z=>by
 obtain ⟨v,o,ho,hd⟩:=I.cell x c e
 obtain ⟨m,⟨o',es,ep,ho',hd',_⟩,_⟩:=I.loc
 rw [z,ho'] at ho;cases ho;rw [hd'] at hd;cases hd
theorem Inv.funs (I:Inv X pins σ H s):s.heap.FunFrames X.base X.outer:=by
 have all:∀ (l:List Env),(∀ b∈frs l,b∈X.fs)->X.s₀.heap.FunFrames X.base l->s.heap.FunFrames X.base l:=by
  intro l
  induction l with
  | nil=>intro _ _;trivial
  | cons env r ih =>
   intro hs hl
   obtain ⟨hk,⟨L,o,hf,hn,ho,hd⟩,hr⟩:=hl
   have hL:L∈X.fs:=hs L (by unfold frs;rw [zqc4,hf];exact zqar)
   obtain ⟨sl,e⟩:=I.base.slot L o ho (I.ok.frf L hL) hL fun z=>I.ok.exfs L z hL
   exact ⟨hk,⟨L,_,hf,hn,e,hd⟩,ih (fun b hb=>hs b (by unfold frs;rw [zqc4,hf];exact zqai _ hb)) hr⟩
 exact all X.outer (fun _ hb=>hb) I.ok.funs
theorem Inv.stack (I:Inv X pins σ H s):s.heap.FunFrames X.base X.stack:=by
 rcases I.ok.stk with e | ⟨e,hf⟩
 ·rw [e];exact I.funs
 ·rw [e]
  obtain ⟨m,hn,_⟩:=I.loc
  refine .cons (by rw [I.ok.kind];decide) hf hn ?_ I.funs
  exact zqcx (zqat I.ok.bsz I.ok.above)
theorem Inv.stkSub (I:Inv X pins σ H s):∀ b∈frs X.stack,b∈X.env.locals::X.fs:=fun b hb=>by
 rcases I.ok.stk with e | ⟨e,hf⟩
 ·rw [e] at hb;exact zqai _ hb
 ·rw [e] at hb
  unfold frs at hb
  rw [zqc4,hf] at hb
  exact hb
theorem Inv.stkFree (I:Inv X pins σ H s):∀ b∈frs X.stack,H b=none:=fun b hb=>by
 rcases zqaq.mp (I.stkSub b hb) with e | hb
 ·rw [e];exact I.free
 ·obtain ⟨_,o,ho,_⟩:=I.ok.funs.mem hb
  exact I.base.free b o ho (I.ok.frf b hb) fun z=>I.ok.exfs b z hb
theorem Inv.step {g':Array GenState} {t':Nat} {d':Drawn} {ch:List Addr} (I:Inv X pins σ H s) (hch:∀ b∈ch,(b∈X.ex\/X.s₀.heap.objs.size<=b)/\b≠X.env.locals/\(∀ x c,X.env.cells.lookup x=some c->c≠b)/\∀ p∈X.pn++pins,p.1≠b) (keep:∀ b o,b≠X.env.locals->b∉X.fs->b∉ch->s.heap.get? b=some o->H b=none->h'.get? b=some o) (slot:∀ b o,b≠X.env.locals->b∈X.fs->b∉ch->s.heap.get? b=some o->H b=none->∃ sl,h'.get? b=some { o with slots:=sl }) (free:∀ b o,b∉ch->s.heap.get? b=some o->H b=none->H' b=none) (there:∀ b o,b∉ch->s.heap.get? b=some o->∃ o',h'.get? b=some o') (tups:∀ b xs,H b=some (.tup xs)->H' b=some (.tup xs)) (frzs:∀ b o u,H b=some (.frz o u)->H' b=some (.frz o u)) (tbls:∀ b ps,H b=some (.tbl ps)->∃ more,H' b=some (.tbl (ps++more))) (ns:∀ m,s.heap.Ns X.env.locals m->h'.Ns X.env.locals m) (hok:HOk X.prog X.w H' h') (hg:AllBare g'):Inv X pins σ H' { s with heap:=h',gens:=g',drawn:=d',toks:=t' }:=by
 have neL:∀ b o,X.s₀.heap.get? b=some o->b≠X.env.locals:=fun b o e=>zqa4 (zqao (zqaf e) I.ok.above)
 have neC:∀ b o,X.s₀.heap.get? b=some o->b∉X.ex->b∉ch:=fun b o e hx hb=>by
  rcases (hch b hb).1 with z | z
  ·exact hx z
  ·exact absurd (zqao (zqaf e) z) (zqbk _)
 have cellK:∀ x c,X.env.cells.lookup x=some c->∀ v,s.heap.IsCell c v->h'.IsCell c v:=fun x c e v ⟨o,ho,hd⟩=>by
  have nch:c∉ch:=fun z=>(hch c z).2.2.1 x c e rfl
  by_cases hc:c∈X.fs
  ·obtain ⟨sl,q⟩:=slot c o (I.cne x c e) hc nch ho (I.freeC x c e)
   exact ⟨_,q,hd⟩
  ·exact ⟨o,keep c o (I.cne x c e) hc nch ho (I.freeC x c e),hd⟩
 refine ⟨I.ok,I.os,hg,⟨fun b o e n hb hx=>?_,fun b o e n hb hx=>?_,fun b o e n hx=>?_,fun b o e hx=>?_,fun b xs e=>tups b xs (I.base.tups b xs e),fun b o xs e=>frzs b o xs (I.base.frzs b o xs e),fun b ps e=>?_⟩,?_,fun x c e=>?_,?_,fun x c e=>?_,fun p hp=>?_,hok,I.len⟩
 ·exact keep b o (neL b o e) hb (neC b o e hx) (I.base.keep b o e n hb hx) (I.base.free b o e n hx)
 ·obtain ⟨sl,e1⟩:=I.base.slot b o e n hb hx
  obtain ⟨sl',e2⟩:=slot b _ (neL b o e) hb (neC b o e hx) e1 (I.base.free b o e n hx)
  exact ⟨sl',e2⟩
 ·obtain ⟨o',e1⟩:=I.base.there b o e hx
  exact free b o' (neC b o e hx) e1 (I.base.free b o e n hx)
 ·obtain ⟨o',e1⟩:=I.base.there b o e hx
  exact there b o' (neC b o e hx) e1
 ·obtain ⟨m1,e1⟩:=I.base.tbls b ps e
  obtain ⟨m2,e2⟩:=tbls b _ e1
  exact ⟨m1++m2,by rw [e2,Array.append_assoc]⟩
 ·obtain ⟨m,hn,hl⟩:=I.loc
  refine ⟨m,ns m hn,fun i x v e1 e2 e3=>?_⟩
  obtain ⟨u,r,l⟩:=hl i x v e1 e2 e3
  refine ⟨u,r,?_⟩
  rcases l with l | ⟨k,c,e,z⟩
  ·exact .inl l
  ·exact .inr ⟨k,c,e,cellK x c e _ z⟩
 ·obtain ⟨v,z⟩:=I.cell x c e
  exact ⟨v,cellK x c e v z⟩
 ·obtain ⟨m,⟨o,_,_,ho,_⟩,_⟩:=I.loc
  exact free _ o (fun z=>(hch _ z).2.1 rfl) ho I.free
 ·obtain ⟨v,o,ho,hd⟩:=I.cell x c e
  exact free c o (fun z=>(hch c z).2.2.1 x c e rfl) ho (I.freeC x c e)
 ·obtain ⟨e,n,ne,nf,d⟩:=I.pin p hp
  have nch:p.1∉ch:=fun z=>(hch p.1 z).2.2.2 p hp rfl
  exact ⟨keep p.1 p.2 ne nf nch e n,free p.1 p.2 nch e n,ne,nf,d⟩
theorem Inv.un {t':Nat} (I:Inv X pins σ H s) (u:Un X.fs [] H H' s.heap h') (hok:HOk X.prog X.w H' h'):Inv X pins σ H' { s with heap:=h',toks:=t' }:=by
 obtain ⟨m,⟨o,es,ep,ho,r⟩,_⟩:=id I.loc
 obtain ⟨sl,hL⟩:=u.any ho I.free (by simp)
 exact I.step (g':=s.gens) (d':=s.drawn) (ch:=[]) (fun _ z=>nomatch z) (fun b o _ hb _ e n=>u.keep b o e n hb (by simp)) (fun b o _ hb _ e n=>u.slot b o e n hb (by simp)) (fun b o _ e n=>u.free b o e n (by simp)) (fun b o _ e=>u.there b o e (by simp)) u.tups u.frzs u.tbls (fun m' hm=>by
  obtain ⟨o',es',ep',ho',r'⟩:=hm
  rw [ho] at ho';cases ho'
  exact ⟨_,es',ep',hL,r'⟩) hok I.bare
theorem Inv.call {g':Array GenState} {t':Nat} {d':Drawn} {ch:List Addr} (I:Inv X pins σ H s) (u:Un (frs X.stack) ch H H' s.heap h') (hok:HOk X.prog X.w H' h') (hg:AllBare g') (hch:∀ b∈ch,(b∈X.ex\/X.s₀.heap.objs.size<=b)/\b≠X.env.locals/\(∀ x c,X.env.cells.lookup x=some c->c≠b)/\∀ p∈X.pn++pins,p.1≠b):Inv X pins σ H' { s with heap:=h',gens:=g',drawn:=d',toks:=t' }:=by
 obtain ⟨m,⟨o,es,ep,ho,r⟩,_⟩:=id I.loc
 obtain ⟨sl,hL⟩:=u.any ho I.free fun z=>(hch _ z).2.1 rfl
 exact I.step (ch:=ch) hch (fun b o hL hb hc e n=>u.keep b o e n (fun z=>(zqaq.mp (I.stkSub b z)).elim hL hb) hc) (fun b o _ _ hc e n=>u.any e n hc) (fun b o hc e n=>u.free b o e n hc) (fun b o hc e=>u.there b o e hc) u.tups u.frzs u.tbls (fun m' hm=>by
  obtain ⟨o',es',ep',ho',r'⟩:=hm
  rw [ho] at ho';cases ho'
  exact ⟨_,es',ep',hL,r'⟩) hok hg
theorem Inv.turned {t':Nat} {it:Addr} (I:Inv X pins σ H s) (k:∀ b o,b≠it->s.heap.get? b=some o->h'.get? b=some o) (hn:H it=none) (hL:it≠X.env.locals) (h1:it∈X.ex\/X.s₀.heap.objs.size<=it) (h2:∀ x c,X.env.cells.lookup x=some c->c≠it) (h3:∀ p∈X.pn++pins,p.1≠it):Inv X pins σ H { s with heap:=h',toks:=t' }:=by
 have nit:∀ b u,H b=some u->b≠it:=fun b u e z=>by rw [z,hn] at e;cases e
 refine I.step (g':=s.gens) (d':=s.drawn) (ch:=[it]) (fun b hb=>?_) (fun b o _ _ hc e _=>k b o (fun z=>hc (by simp [z])) e) (fun b o _ _ hc e _=>⟨o.slots,k b o (fun z=>hc (by simp [z])) e⟩) (fun _ _ _ _ n=>n)
  (fun b o hc e=>⟨o,k b o (fun z=>hc (by simp [z])) e⟩) (fun _ _ e=>e) (fun _ _ _ e=>e) (fun b ps e=>⟨#[],by rw [e];simp⟩) (fun m hm=>?_) (fun b u e=>?_) I.bare
 ·have e:b=it:=by simpa using hb
  subst e
  exact ⟨h1,hL,h2,h3⟩
 ·obtain ⟨o,es,ep,ho,r⟩:=hm
  exact ⟨o,es,ep,k _ o (zqbd hL) ho,r⟩
 ·refine (I.hok b u e).stay (fun c v hc q=>k c v ?_ q) (fun _ q=>q) fun _ _ q=>q
  rcases hc with z | z
  ·rw [z];exact nit b u e
  ·exact nit c _ z
theorem Inv.tok (I:Inv X pins σ H s) (t:Nat):Inv X pins σ H { s with toks:=t }:=I.un (h':=s.heap) (t':=t) Un.refl I.hok
theorem Inv.kept {t':Nat} (I:Inv X pins σ H s) (k:∀ b u,s.heap.get? b=some u->h'.get? b=some u):Inv X pins σ H { s with heap:=h',toks:=t' }:=I.un (Un.kept k) (I.hok.kept k)
theorem Inv.laid {a:Addr} {o:HO} {t':Nat} (I:Inv X pins σ H s) (k:∀ b u,s.heap.get? b=some u->h'.get? b=some u) (hp:s.heap.objs.size<=a) (new:ObjOk X.prog X.w (upd H a o) h' a o):Inv X pins σ (upd H a o) { s with heap:=h',toks:=t' }:=I.un (Un.laid k hp (I.hok.fresh hp)) (I.hok.laid k hp new)
theorem Inv.write {x e:Addr} {o:HO} {t':Nat} (I:Inv X pins σ H s) (mu:Mut (H x)) (he:e=x\/H e=some (.own x)) (k:∀ b u,b≠e->s.heap.get? b=some u->h'.get? b=some u) (heo:∃ u,h'.get? e=some u) (new:ObjOk X.prog X.w (upd H x o) h' x o):Inv X pins σ (upd H x o) { s with heap:=h',toks:=t' }:=I.un (Un.write mu he k heo) (I.hok.write mu he k heo new)
theorem Inv.pins_of {pins':List (Addr×Obj)} (I:Inv X pins σ H s) (h:∀ p∈pins',s.heap.get? p.1=some p.2/\H p.1=none/\p.1≠X.env.locals/\p.1∉X.fs/\∀ v,p.2.data≠.cell v):Inv X pins' σ H s :=
 ⟨I.ok,I.os,I.bare,I.base,I.loc,I.cell,I.free,I.freeC,fun p hp=>(zqbx.mp hp).elim (fun z=>I.pin p (zqbr _ z)) (h p),I.hok,I.len⟩
theorem nodup_ix {N:List Str} (hN:N.Nodup) {i j:Nat} {x:Str} (a:N[i]?=some x) (b:N[j]?=some x):i=j:=by
 obtain ⟨h1,e1⟩:=zqak.mp a
 obtain ⟨h2,e2⟩:=zqak.mp b
 exact (List.getElem_inj hN).mp (e1.trans e2.symm)
theorem store_ok2 {M:Model} {A:Around} {E:Value->Shared->Prop} {i:Nat} {x:Str} {v:V} {u:Value} {Q:Unit->Shared->Prop} (I:Inv X pins σ H s) (hN:X.N.Nodup) (hi:X.N[i]?=some x) (hx:Loc X.env.scope x) (r:RelV v u) (h:∀ s',Inv X pins (σ.set i (some v)) H s'->(∃ a,Heap.SameBut a s.heap s'.heap/\(a=X.env.locals\/X.env.cells.lookup x=some a))->Q () s') (hf:X.fn x=true\/X.env.scope.names.lookup x=some .local:=by first | exact .inl rfl | exact .inr rfl | assumption):wpAny M A (storeName X.env x u) Q E s:=by
 obtain ⟨m,hn,hl⟩:=id I.loc
 have hcls:(X.env.scope.kind == .class || (X.env.scope.kind == .module && X.env.locals != X.env.globals))=false:=by rw [I.ok.kind];rfl
 have hiσ:i < σ.length:=by rw [I.len];exact (zqak.mp hi).1
 have cne:=I.cne
 have tracked:∀ {a:Addr} {h':Heap},(∃ o,s.heap.get? a=some o/\H a=none)->Heap.SameBut a s.heap h'->HOk X.prog X.w H h':=fun {a h'} ha hs b ob e=>by
  obtain ⟨_,_,hfree⟩:=ha
  refine (I.hok b ob e).stay (fun c w' hc q=>(hs.2 c ?_).trans q) (fun _ q=>q) fun _ _ q=>q
  rintro rfl
  rcases hc with rfl | hc
  ·rw [hfree] at e;cases e
  ·rw [hfree] at hc;cases hc
 rcases hx with hk | hk
 ·refine wpAny_storeName_local hk hn (fun h' hn' hs=>?_) hcls
  obtain ⟨oL,_,_,hoL,_⟩:=id hn
  refine h _ ⟨I.ok,I.os,I.bare,⟨fun b o e n hb hx=>?_,fun b o e n hb hx=>?_,I.base.free,fun b o e hx=>?_,I.base.tups,I.base.frzs,I.base.tbls⟩,⟨_,hn',fun j y v' e1 e2 e3=>?_⟩,fun y c e=>?_,I.free,I.freeC,fun p hp=>?_,tracked ⟨oL,hoL,I.free⟩ hs,by simpa using I.len⟩ ⟨_,hs,.inl rfl⟩
  ·exact (hs.2 b (zqa4 (zqao (zqaf e) I.ok.above))).trans (I.base.keep b o e n hb hx)
  ·obtain ⟨sl,e1⟩:=I.base.slot b o e n hb hx
   exact ⟨sl,(hs.2 b (zqa4 (zqao (zqaf e) I.ok.above))).trans e1⟩
  ·obtain ⟨o',e1⟩:=I.base.there b o e hx
   exact ⟨o',(hs.2 b (zqa4 (zqao (zqaf e) I.ok.above))).trans e1⟩
  ·by_cases hj:j=i
   ·subst hj
    rw [hi] at e1;cases e1
    rw [zqbf hiσ] at e2
    cases e2
    exact ⟨u,r,.inl ⟨hk,by simp⟩⟩
   ·rw [zqbe (zqbd hj)] at e2
    obtain ⟨u',r',q⟩:=hl j y v' e1 e2 e3
    refine ⟨u',r',?_⟩
    rcases q with ⟨k,e⟩|⟨k,c,e,z⟩
    ·refine .inl ⟨k,?_⟩
     have:y≠x:=fun e=>hj (nodup_ix hN e1 (e ▸ hi))
     simp [this,e]
    ·exact .inr ⟨k,c,e,z.sameBut hs (cne y c e)⟩
  ·obtain ⟨w',z⟩:=I.cell y c e
   exact ⟨w',z.sameBut hs (cne y c e)⟩
  ·obtain ⟨e,n,ne,nf,d⟩:=I.pin p hp
   exact ⟨(hs.2 p.1 ne).trans e,n,ne,nf,d⟩
 ·have hfn:X.fn x=true:=by
   rcases hf with z | z
   ·exact z
   ·rw [z] at hk;cases hk
  obtain ⟨c,hc⟩:=I.ok.has x (.inl hk)
  obtain ⟨w',z⟩:=I.cell x c hc
  refine wpAny_storeName_cell I.ok.kind hk hc z (fun h' hc' hs=>?_)
  obtain ⟨oc,hoc,hocd⟩:=id z
  refine h { s with heap:=h' } ⟨I.ok,I.os,I.bare,⟨fun b o e n hb hx=>?_,fun b o e n hb hx=>?_,I.base.free,fun b o e hx=>?_,I.base.tups,I.base.frzs,I.base.tbls⟩,⟨m,hn.sameBut hs (zqbd (cne x c hc)),fun j y v' e1 e2 e3=>?_⟩,fun y c' e=>?_,I.free,I.freeC,fun p hp=>?_,tracked ⟨oc,hoc,I.freeC x c hc⟩ hs,by simpa using I.len⟩ ⟨c,hs,.inr hc⟩
  ·exact (hs.2 b (zqa4 (zqao (zqaf e) (I.ok.cab x c hfn hc)))).trans (I.base.keep b o e n hb hx)
  ·obtain ⟨sl,e1⟩:=I.base.slot b o e n hb hx
   exact ⟨sl,(hs.2 b (zqa4 (zqao (zqaf e) (I.ok.cab x c hfn hc)))).trans e1⟩
  ·obtain ⟨o',e1⟩:=I.base.there b o e hx
   exact ⟨o',(hs.2 b (zqa4 (zqao (zqaf e) (I.ok.cab x c hfn hc)))).trans e1⟩
  ·by_cases hj:j=i
   ·subst hj
    rw [hi] at e1;cases e1
    rw [zqbf hiσ] at e2
    cases e2
    exact ⟨u,r,.inr ⟨.inl hk,c,hc,hc'⟩⟩
   ·rw [zqbe (zqbd hj)] at e2
    obtain ⟨u',r',q⟩:=hl j y v' e1 e2 e3
    refine ⟨u',r',?_⟩
    rcases q with q | ⟨k,c',e,z'⟩
    ·exact .inl q
    ·refine .inr ⟨k,c',e,z'.sameBut hs ?_⟩
     rintro rfl
     exact hj (nodup_ix hN e1 (I.ok.inj _ _ _ e hc ▸ hi))
  ·by_cases hcc:c'=c
   ·subst hcc;exact ⟨_,hc'⟩
   ·obtain ⟨w2,z2⟩:=I.cell y c' e
    exact ⟨w2,z2.sameBut hs hcc⟩
  ·obtain ⟨e,n,ne,nf,d⟩:=I.pin p hp
   refine ⟨(hs.2 p.1 ?_).trans e,n,ne,nf,d⟩
   intro q
   rw [q,hoc] at e
   have q':oc=p.2:=zqag e
   exact d w' (by rw [<- q'];exact hocd)
theorem store_ok {M:Model} {A:Around} {E:Value->Shared->Prop} {i:Nat} {x:Str} {v:V} {u:Value} {Q:Unit->Shared->Prop} (I:Inv X pins σ H s) (hN:X.N.Nodup) (hi:X.N[i]?=some x) (hx:Loc X.env.scope x) (r:RelV v u) (h:∀ s',Inv X pins (σ.set i (some v)) H s'->Q () s') (hf:X.fn x=true\/X.env.scope.names.lookup x=some .local:=by first | exact .inl rfl | exact .inr rfl | assumption):wpAny M A (storeName X.env x u) Q E s :=
 store_ok2 I hN hi hx r (fun s' I' _=>h s' I') hf
theorem Inv.call' {s':Shared} {ch:List Addr} (I:Inv X pins σ H s) (ho:s'.os=s.os) (u:Un (frs X.stack) ch H H' s.heap s'.heap) (hok:HOk X.prog X.w H' s'.heap) (hg:AllBare s'.gens) (hch:∀ b∈ch,(b∈X.ex\/X.s₀.heap.objs.size<=b)/\b≠X.env.locals/\(∀ x c,X.env.cells.lookup x=some c->c≠b)/\∀ p∈X.pn++pins,p.1≠b):Inv X pins σ H' s':=by
 obtain ⟨h',g',d',t',o'⟩:=s'
 have e:o'=s.os:=ho
 subst e
 exact I.call (g':=g') (t':=t') (d':=d') u hok hg hch
end
abbrev XK:=Value->Option Addr->Hp->Prop
abbrev St:=List (Option V)
abbrev VK:=V->Hp->Prop
abbrev TE:=St->Hp->VK->Prop
abbrev TT:=St->Hp->(Bool->Hp->Prop)->Prop
abbrev TA:=St->Hp->(List V->Hp->Prop)->Prop
structure Ends where
 nx:St->Hp->Prop
 rt:VK
 bk:St->Hp->Prop:=fun _ _=>False
 ct:St->Hp->Prop:=fun _ _=>False
abbrev TS:=Ends->St->Hp->Prop
def EP (X:Cx) (pins:List (Addr×Obj)) (σ:St) (Q:VK) (u:Value) (s':Shared):Prop:=∃ v H',Inv X pins σ H' s'/\RelV v u/\Q v H'
noncomputable def TP (X:Cx) (pins:List (Addr×Obj)) (σ:St) (Q:Bool->Hp->Prop) (b:Bool) (s':Shared):Prop:=∃ H',Inv X pins σ H' s'/\Q b H'
noncomputable def AP (X:Cx) (pins:List (Addr×Obj)) (σ:St) (Q:List V->Hp->Prop) (us:List Value) (s':Shared):Prop:=∃ vs H',Inv X pins σ H' s'/\Vals vs us/\Q vs H'
def SP (X:Cx) (pins:List (Addr×Obj)) (D:Ends) (f:Flow) (s':Shared):Prop :=
 match f with
 | .next=>∃ σ' H',Inv X pins σ' H' s'/\D.nx σ' H'
 | .brk=>∃ σ' H',Inv X pins σ' H' s'/\D.bk σ' H'
 | .cont=>∃ σ' H',Inv X pins σ' H' s'/\D.ct σ' H'
 | .ret u=>∃ v σ' H',Inv X pins σ' H' s'/\RelV v u/\D.rt v H'
def PE (X:Cx) (e:Expr) (t:TE):Prop :=
 ∀ (pins:List (Addr×Obj)) (s:Shared) (σ:St) (H:Hp) (Q:VK),Inv X pins σ H s->t σ H Q->wpAny (model X.prog X.w) X.A (eval e X.env) (EP X pins σ Q) X.xe s
def PT (X:Cx) (e:Expr) (t:TT):Prop :=
 ∀ (pins:List (Addr×Obj)) (s:Shared) (σ:St) (H:Hp) (Q:Bool->Hp->Prop),Inv X pins σ H s->t σ H Q->wpAny (model X.prog X.w) X.A (isTrue e X.env (eval e X.env)) (TP X pins σ Q) X.xe s
def PW (X:Cx) (e:Expr) (t:TT):Prop :=
 ∀ (whole:Sem Value) (pins:List (Addr×Obj)) (s:Shared) (σ:St) (H:Hp) (Q:Bool->Hp->Prop),Inv X pins σ H s->t σ H Q->wpAny (model X.prog X.w) X.A (isTrue e X.env whole) (TP X pins σ Q) X.xe s
theorem PW.pt {X:Cx} {e:Expr} {t:TT} (h:PW X e t):PT X e t:=h _
def PA (X:Cx) (es:List Expr) (t:TA):Prop :=
 ∀ (pos:Pos) (pins:List (Addr×Obj)) (s:Shared) (σ:St) (H:Hp) (Q:List V->Hp->Prop),Inv X pins σ H s->t σ H Q->wpAny (model X.prog X.w) X.A (spliced (backTo pos (starEach es X.env))) (AP X pins σ Q) X.xe s
def PS (X:Cx) (st:Stmt) (t:TS):Prop :=
 ∀ (pins:List (Addr×Obj)) (s:Shared) (σ:St) (H:Hp) (D:Ends),Inv X pins σ H s->t D σ H->wpAny (model X.prog X.w) X.A (exec st X.env) (SP X pins D) X.xe s
def PSs (X:Cx) (st:List Stmt) (t:TS):Prop :=
 ∀ (pins:List (Addr×Obj)) (s:Shared) (σ:St) (H:Hp) (D:Ends),Inv X pins σ H s->t D σ H->wpAny (model X.prog X.w) X.A (execs st X.env) (SP X pins D) X.xe s
theorem thn {α:Type} {t:Sem α} {Q Q':α->Shared->Prop} {M:Model} {A:Around} {E:Value->Shared->Prop} {s:Shared} (h:wpAny M A t Q E s) (hQ:∀ a s,Q a s->Q' a s):wpAny M A t Q' E s:=zqbl h hQ fun _ _ x=>x
section
variable {X:Cx}
theorem bin {a b:Expr} {ta tb:TE} (ha:PE X a ta) (hb:PE X b tb) {pins:List (Addr×Obj)} {s:Shared} {σ:St} {H:Hp} {R:V->V->Hp->Prop} (I:Inv X pins σ H s) (h:ta σ H fun x H1=>tb σ H1 fun y H2=>R x y H2) {α:Type} {Q:α->Shared->Prop} {f:Value->Value->Sem α} (hf:∀ v u s2 x y H2,Inv X pins σ H2 s2->RelV x v->RelV y u->R x y H2->wpAny (model X.prog X.w) X.A (f v u) Q X.xe s2):wpAny (model X.prog X.w) X.A (eval a X.env) (fun v s₁=>wpAny (model X.prog X.w) X.A (eval b X.env) (fun u s₂=>wpAny (model X.prog X.w) X.A (f v u) Q X.xe s₂) X.xe s₁) X.xe s:=by
 refine thn (ha pins s σ H _ I h) ?_
 rintro v s1 ⟨x,H1,I1,r1,q1⟩
 refine thn (hb pins s1 σ H1 _ I1 q1) ?_
 rintro u s2 ⟨y,H2,I2,r2,q2⟩
 exact hf v u s2 x y H2 I2 r1 r2 q2
noncomputable def tVar (i:Nat):TE:=fun σ H Q=>∃ v,σ[i]?=some (some v)/\Q v H
def tC (v:V):TE:=fun _ H Q=>Q v H
theorem pe_var {i:Nat} {x:Str} {pos:Pos} (hN:X.N[i]?=some x) (hv:Vis X.env.scope x) (hd:(x == ("__debug__" : Str))=false:=by decide) (hcd:(x == ("__classdict__" : Str))=false:=by decide):PE X (.Name x pos) (tVar i):=by
 intro pins s σ H Q I h
 obtain ⟨v,e,h⟩:=h
 obtain ⟨m,hn,hl⟩:=I.loc
 obtain ⟨u,r,l⟩:=hl i x v hN e hv
 have fin:EP X pins σ Q u s:=⟨v,H,I,r,h⟩
 rcases l with ⟨hk,hm⟩|⟨hk,c,hc,hcell⟩
 ·exact wpAny_Name (wpAny_loadName_local I.ok.kind hk hn hm fin) hd
 ·rcases hk with hk | hk
  ·exact wpAny_Name (wpAny_loadName_cell I.ok.kind hk hc hcell fin) hd
  ·exact wpAny_Name (wpAny_loadName_free I.ok.kind hk hc hcell fin hcd) hd
theorem pe_int {i j pos}:PE X (.Constant (.int i) j pos) (tC (.int i)):=fun _ _ _ H _ I h=>wpAny_Constant_int ⟨.int i,H,I.tok _,⟨_,rfl⟩,h⟩
theorem pe_bl {b j pos}:PE X (.Constant (.bool b) j pos) (tC (.bl b)):=fun _ _ _ H _ I h=>Constant_bool ⟨.bl b,H,I,rfl,h⟩
theorem pe_non {j pos}:PE X (.Constant .none j pos) (tC .non):=fun _ _ _ H _ I h=>Constant_none ⟨.non,H,I,rfl,h⟩
theorem pe_str {x j pos}:PE X (.Constant (.str x) j pos) (tC (.str x)):=fun _ _ _ H _ I h=>Calls.Constant_str ⟨.str x,H,I.tok _,⟨_,rfl⟩,h⟩
noncomputable def Gl (X:Cx) (x:Str):Prop:=X.env.kindOf x=some .globalImplicit
theorem ld_glob {E:Value->Shared->Prop} {pins:List (Addr×Obj)} {s:Shared} {σ:St} {H:Hp} {x:Str} {u:Value} {pos:Pos} {Q:Value->Shared->Prop} (I:Inv X pins σ H s) (hg:Gl X x) (hm:X.mg x=some u) (h:Q u s) (hd:(x == ("__debug__" : Str))=false:=by decide):wpAny (model X.prog X.w) X.A (eval (.Name x pos) X.env) Q E s :=
 Calls.Name_function_global I.ok.kind hg (Calls.loadGlobal_global (by rw [I.ok.glob];exact I.mod.glob.keeps I.bk) hm h) hd
theorem ld_blt {E:Value->Shared->Prop} {pins:List (Addr×Obj)} {s:Shared} {σ:St} {H:Hp} {x:Str} {u:Value} {pos:Pos} {Q:Value->Shared->Prop} (I:Inv X pins σ H s) (hg:Gl X x) (hm:X.mg x=none) (hv:bootBuiltins x=some u) (h:Q u s) (hn:x ≠ "__name__" := by decide) (hd:(x == ("__debug__" : Str))=false:=by decide):wpAny (model X.prog X.w) X.A (eval (.Name x pos) X.env) Q E s:=by
 obtain ⟨mb,h1,h2⟩:=I.mod.blt
 exact Calls.Name_function_global I.ok.kind hg (Calls.loadGlobal_builtin (by rw [I.ok.glob];exact I.mod.glob.keeps I.bk) hm (by rw [I.ok.blt];exact h1.keeps I.bk) ((h2 x hn).trans hv) h) hd
theorem pe_glob {x:Str} {v:V} {u:Value} {pos:Pos} (hg:Gl X x) (hm:X.mg x=some u) (r:RelV v u) (hd:(x == ("__debug__" : Str))=false:=by decide):PE X (.Name x pos) (tC v) :=
 fun _ _ _ H _ I h=>ld_glob I hg hm ⟨v,H,I,r,h⟩ hd
theorem pe_bltn {x:Str} {v:V} {u:Value} {pos:Pos} (hg:Gl X x) (hm:X.mg x=none) (hv:bootBuiltins x=some u) (r:RelV v u) (hn:x ≠ "__name__" := by decide) (hd:(x == ("__debug__" : Str))=false:=by decide):PE X (.Name x pos) (tC v) :=
 fun _ _ _ H _ I h=>ld_blt I hg hm hv ⟨v,H,I,r,h⟩ hn hd
variable {a b:Expr} {ta tb:TE} {pos:Pos}
variable {tA tB':TT} {rest:List Expr}
noncomputable def tAnd (t u:TT):TT:=fun σ H Q=>t σ H fun c H1=>if c=true then u σ H1 Q else Q false H1
noncomputable def tOr (t u:TT):TT:=fun σ H Q=>t σ H fun c H1=>if c=true then Q true H1 else u σ H1 Q
def tNot (t:TT):TT:=fun σ H Q=>t σ H fun c H1=>Q (!c) H1
theorem pw_and1 (ha:PT X a tA):PW X (.BoolOp .And [a] pos) tA:=by
 intro wh pins s σ H Q I h
 refine isTrue_and (thn (ha pins s σ H Q I h) fun c s1 e=>?_)
 cases c with
 | true=>exact isTrue_and_nil e
 | false=>exact e
theorem pw_or1 (ha:PT X a tA):PW X (.BoolOp .Or [a] pos) tA:=by
 intro wh pins s σ H Q I h
 refine isTrue_or (thn (ha pins s σ H Q I h) fun c s1 e=>?_)
 cases c with
 | false=>exact isTrue_or_nil e
 | true=>exact e
theorem pw_and (ha:PT X a tA) (hb:PW X (.BoolOp .And (b::rest) pos) tB'):PW X (.BoolOp .And (a::b::rest) pos) (tAnd tA tB'):=by
 intro wh pins s σ H Q I h
 refine isTrue_and (thn (ha pins s σ H _ I h) ?_)
 rintro c s1 ⟨H1,I1,q1⟩
 cases c with
 | true=>exact hb wh pins s1 σ H1 Q I1 q1
 | false=>exact ⟨H1,I1,q1⟩
theorem pw_or (ha:PT X a tA) (hb:PW X (.BoolOp .Or (b::rest) pos) tB'):PW X (.BoolOp .Or (a::b::rest) pos) (tOr tA tB'):=by
 intro wh pins s σ H Q I h
 refine isTrue_or (thn (ha pins s σ H _ I h) ?_)
 rintro c s1 ⟨H1,I1,q1⟩
 cases c with
 | true=>exact ⟨H1,I1,q1⟩
 | false=>exact hb wh pins s1 σ H1 Q I1 q1
theorem pt_not (ha:PT X a tA):PT X (.UnaryOp .Not a pos) (tNot tA):=by
 intro pins s σ H Q I h
 exact isTrue_not (ha pins s σ H (fun c H1=>Q (!c) H1) I h)
noncomputable def tNotV (ta:TE):TE:=fun σ H Q=>ta σ H fun x H1=>∃ c,x=.bl c/\Q (.bl (!c)) H1
theorem pe_not (ha:PE X a ta):PE X (.UnaryOp .Not a pos) (tNotV ta):=by
 intro pins s σ H Q I h
 refine UnaryOp_ (thn (ha pins s σ H _ I h) ?_)
 rintro v s1 ⟨x,H1,I1,r1,q1⟩
 obtain ⟨c,rfl,q1⟩:=q1
 cases r1
 exact not_of (zqbz ⟨.bl (!c),H1,I1,rfl,q1⟩)
noncomputable def tIf (t:TT) (ta tb:TE):TE:=fun σ H Q=>t σ H fun c H1=>if c=true then ta σ H1 Q else tb σ H1 Q
theorem pe_ifExp {c:Expr} (hc:PT X c tA) (ha:PE X a ta) (hb:PE X b tb):PE X (.IfExp c a b pos) (tIf tA ta tb):=by
 intro pins s σ H Q I h
 refine wpAny_IfExp (thn (hc pins s σ H _ I h) ?_)
 rintro d s1 ⟨H1,I1,q1⟩
 cases d with
 | true=>exact ha pins s1 σ H1 Q I1 q1
 | false=>exact hb pins s1 σ H1 Q I1 q1
end
def SqL (K:PySem.W.Frag) (H:Hp) (a:Addr) (xs:List V):Prop :=
 Rd H a (.lst xs) \/
  ∃ (o:Obj) (its:Array Value) (n:Nat),K.lookup a=some o/\o.cls=.type "list" /\ o.dict=none/\o.data=.seq its n/\its.size<=sizeLine/\Vals xs its.toList
def SqT (K:PySem.W.Frag) (H:Hp) (a:Addr) (xs:List V):Prop :=
 Rd H a (.tup xs) \/
  ∃ (o:Obj) (its:Array Value) (n:Nat),K.lookup a=some o/\o.cls=.type "tuple" /\ o.data=.seq its n/\its.size<=sizeLine/\Vals xs its.toList
noncomputable def absV:Value->Option V
 | .none=>some .non
 | .bool b=>some (.bl b)
 | .int i _=>some (.int i)
 | .str x _=>some (.str x)
 | .bytes b _=>some (.byt b)
 | .float b _=>some (.flt b)
 | .ref a=>some (.ref a)
 | .type n=>some (.ty n)
 | _=>none
theorem RelV.abs {x:V} {u:Value} (r:RelV x u):absV u=some x:=by
 cases x with
 | non=>cases r;rfl
 | bl _=>cases r;rfl
 | int _=>obtain ⟨t,rfl⟩:=r;rfl
 | str _=>obtain ⟨t,rfl⟩:=r;rfl
 | byt _=>obtain ⟨t,rfl⟩:=r;rfl
 | flt _=>obtain ⟨t,rfl⟩:=r;rfl
 | ref _=>cases r;rfl
 | ty _=>cases r;rfl
theorem RelV.inj {x y:V} {u:Value} (r:RelV x u) (q:RelV y u):x=y:=zqag (r.abs.symm.trans q.abs)
theorem Vals.inj:∀ {xs ys:List V} {us:List Value},Vals xs us->Vals ys us->xs=ys
 | _,_,_,.nil,.nil=>rfl
 | _,_,_,.cons r t,.cons r' t'=>by rw [r.inj r',Vals.inj t t']
section
variable {X:Cx} {pins:List (Addr×Obj)} {σ:St} {H:Hp} {s:Shared} {a:Addr} {xs ys:List V}
theorem SqL.of {K:PySem.W.Frag} (h:H a=some (.lst xs)):SqL K H a xs:=.inl (.inl h)
theorem SqT.of {K:PySem.W.Frag} (h:H a=some (.tup xs)):SqT K H a xs:=.inl (.inl h)
theorem Inv.list (I:Inv X pins σ H s) (h:SqL X.K H a xs):∃ its:List Value,Vals xs its/\PlainL s.heap a its.toArray/\xs.length<=sizeLine:=by
 rcases h with h | ⟨o,its,n,hk,hc,hd,hs,hz,r⟩
 ·obtain ⟨z,its,n,r,e⟩:=h.ok I.hok
  exact ⟨its,r,⟨_,n,e,rfl,rfl,rfl⟩,z⟩
 ·refine ⟨its.toList,r,⟨o,n,I.kIn a o hk,hc,hd,by simpa using hs⟩,?_⟩
  have e:=r.length
  simp only [Array.length_toList] at e
  omega
theorem Inv.tuple (I:Inv X pins σ H s) (h:SqT X.K H a xs):∃ its:List Value,Vals xs its/\IsTup s.heap a its.toArray/\xs.length<=sizeLine:=by
 rcases h with h | ⟨o,its,n,hk,hc,hs,hz,r⟩
 ·obtain ⟨z,its,r,p⟩:=h.ok I.hok
  exact ⟨its,r,p,z⟩
 ·refine ⟨its.toList,r,⟨o,I.kIn a o hk,hc,n,by simpa using hs⟩,?_⟩
  have e:=r.length
  simp only [Array.length_toList] at e
  omega
theorem Inv.list_inj (I:Inv X pins σ H s) (h:SqL X.K H a xs) (h':SqL X.K H a ys):xs=ys:=by
 obtain ⟨its,r,⟨o,n,e,_,_,d⟩,_⟩:=I.list h
 obtain ⟨its',r',⟨o',n',e',_,_,d'⟩,_⟩:=I.list h'
 rw [e] at e';cases e'
 rw [d] at d'
 injection d' with d1 _
 have:its=its':=by simpa using zqb6 Array.toList d1
 subst this
 exact r.inj r'
theorem Inv.tuple_inj (I:Inv X pins σ H s) (h:SqT X.K H a xs) (h':SqT X.K H a ys):xs=ys:=by
 obtain ⟨its,r,⟨o,e,_,n,d⟩,_⟩:=I.tuple h
 obtain ⟨its',r',⟨o',e',_,n',d'⟩,_⟩:=I.tuple h'
 rw [e] at e';cases e'
 rw [d] at d'
 injection d' with d1 _
 have:its=its':=by simpa using zqb6 Array.toList d1
 subst this
 exact r.inj r'
end
abbrev Cx.wish (X:Cx) (E:Value->Shared->Prop):Cx:={ X with xe:=E }
abbrev Cx.nox (X:Cx):Cx:=X.wish fun _ _=>False
theorem Cx.Ok.wish {X:Cx} (ok:X.Ok) (E:Value->Shared->Prop):(X.wish E).Ok :=
 ⟨ok.mod,ok.kind,ok.glob,ok.blt,ok.above,ok.inj,ok.has,ok.cab,ok.hd,ok.frames,ok.stk,ok.exf,ok.bs,ok.bsz,ok.noex,ok.exfs,ok.funs,ok.frf⟩
theorem Cx.Ok.unwish {X:Cx} {E:Value->Shared->Prop} (ok:(X.wish E).Ok):X.Ok :=
 ⟨ok.mod,ok.kind,ok.glob,ok.blt,ok.above,ok.inj,ok.has,ok.cab,ok.hd,ok.frames,ok.stk,ok.exf,ok.bs,ok.bsz,ok.noex,ok.exfs,ok.funs,ok.frf⟩
section
variable {X:Cx} {pins:List (Addr×Obj)} {σ:St} {H:Hp} {s:Shared} {E:Value->Shared->Prop}
theorem Inv.wish (I:Inv X pins σ H s) (E:Value->Shared->Prop):Inv (X.wish E) pins σ H s:=⟨I.ok.wish E,I.os,I.bare,I.base,I.loc,I.cell,I.free,I.freeC,I.pin,I.hok,I.len⟩
theorem Inv.unwish (I:Inv (X.wish E) pins σ H s):Inv X pins σ H s:=⟨I.ok.unwish,I.os,I.bare,I.base,I.loc,I.cell,I.free,I.freeC,I.pin,I.hok,I.len⟩
theorem SP.unwish {D:Ends} {f:Flow} {s':Shared} (h:SP (X.wish E) pins D f s'):SP X pins D f s':=by
 cases f with
 | next=>obtain ⟨σ',H',I,q⟩:=h;exact ⟨σ',H',I.unwish,q⟩
 | brk=>obtain ⟨σ',H',I,q⟩:=h;exact ⟨σ',H',I.unwish,q⟩
 | cont=>obtain ⟨σ',H',I,q⟩:=h;exact ⟨σ',H',I.unwish,q⟩
 | ret u=>obtain ⟨v,σ',H',I,r,q⟩:=h;exact ⟨v,σ',H',I.unwish,r,q⟩
theorem PSs.nox {st:List Stmt} {t:TS} (h:PSs X.nox st t):PSs X st t:=fun pins s σ H D I hw =>
 zqbl (h pins s σ H D (I.wish _) hw) (fun _ _ q=>q.unwish) fun _ _ z=>False.elim z
end
section
variable {X:Cx} {st:Stmt} {rest:List Stmt} {t u:TS} {e:Expr} {te:TE} {pos:Pos}
def tNext:TS:=fun D σ H=>D.nx σ H
def tSeq (t u:TS):TS:=fun D σ H=>t { D with nx:=u D } σ H
theorem pss_nil:PSs X [] tNext:=fun _ _ σ H _ I h=>zqbj ⟨σ,H,I,h⟩
theorem pss_cons (h1:PS X st t) (h2:PSs X rest u):PSs X (st::rest) (tSeq t u):=by
 intro pins s σ H D I h
 refine zqcd (thn (h1 pins s σ H { D with nx:=u D } I h) fun f s1 q=>?_)
 cases f with
 | next =>
  obtain ⟨σ',H',I',q⟩:=q
  exact h2 pins s1 σ' H' D I' q
 | ret v=>exact q
 | brk=>exact q
 | cont=>exact q
theorem pss_one (h1:PS X st t):PSs X [st] t:=by
 intro pins s σ H D I h
 refine zqcd (thn (h1 pins s σ H D I h) fun f s1 q=>?_)
 cases f with
 | next=>exact zqbj q
 | ret v=>exact q
 | brk=>exact q
 | cont=>exact q
def tBreak:TS:=fun D σ H=>D.bk σ H
def tCont:TS:=fun D σ H=>D.ct σ H
theorem ps_pass:PS X (.Pass pos) tNext:=fun _ _ σ H _ I h=>wpAny_Pass ⟨σ,H,I,h⟩
theorem ps_break:PS X (.Break pos) tBreak:=fun _ _ σ H _ I h=>wpAny_Break ⟨σ,H,I,h⟩
theorem ps_continue:PS X (.Continue pos) tCont:=fun _ _ σ H _ I h=>wpAny_Continue ⟨σ,H,I,h⟩
theorem Inv.quiet {pins:List (Addr×Obj)} {σ:St} {H:Hp} {s:Shared} (I:Inv X pins σ H s):interactive X.env=false:=by simp [interactive,I.ok.kind]
noncomputable def tDrop (te:TE):TS:=fun D σ H=>te σ H fun _ H1=>D.nx σ H1
theorem ps_expr (he:PE X e te) (hs:swapsWith e none pos.line X.env=pure false:=by rfl):PS X (.Expr e pos) (tDrop te):=by
 intro pins s σ H D I h
 exact wpAny_Expr_any (thn (he pins s σ H _ I h) fun v s1 ⟨x,H1,I1,r1,q1⟩=>⟨σ,H1,I1,q1⟩) I.quiet hs
def tRet (te:TE):TS:=fun D σ H=>te σ H D.rt
theorem ps_ret (he:PE X e te):PS X (.Return (some e) pos) (tRet te):=by
 intro pins s σ H D I h
 exact wpAny_Return_some (thn (he pins s σ H _ I h) fun v s1 ⟨x,H1,I1,r1,q1⟩=>⟨x,σ,H1,I1,r1,q1⟩)
def tRetN:TS:=fun D _ H=>D.rt .non H
theorem ps_retN:PS X (.Return none pos) tRetN:=fun _ _ σ H _ I h=>wpAny_Return_none ⟨.non,σ,H,I,rfl,h⟩
noncomputable def tIfS (c:TT) (t u:TS):TS:=fun D σ H=>c σ H fun b H1=>if b=true then t D σ H1 else u D σ H1
theorem ps_if {c:Expr} {a b:List Stmt} {tc:TT} (hc:PT X c tc) (ha:PSs X a t) (hb:PSs X b u):PS X (.If c a b pos) (tIfS tc t u):=by
 intro pins s σ H D I h
 refine wpAny_If (thn (hc pins s σ H _ I h) ?_)
 rintro d s1 ⟨H1,I1,q1⟩
 cases d with
 | true=>exact ha pins s1 σ H1 D I1 q1
 | false=>exact hb pins s1 σ H1 D I1 q1
def tNever:TS:=fun _ _ _=>False
theorem ps_never:PS X st tNever:=fun _ _ _ _ _ _ h=>h.elim
end
abbrev TG:=V->St->Hp->(St->Hp->Prop)->Prop
abbrev TGs:=List V->St->Hp->(St->Hp->Prop)->Prop
def PG (X:Cx) (target:Expr) (t:TG):Prop :=
 ∀ (pins:List (Addr×Obj)) (s:Shared) (σ:St) (H:Hp) (v:V) (u:Value) (Q:St->Hp->Prop),Inv X pins σ H s->RelV v u->t v σ H Q ->
  wpAny (model X.prog X.w) X.A (assign target X.env u) (fun _ s'=>∃ σ' H',Inv X pins σ' H' s'/\Q σ' H') X.xe s
noncomputable def PGs (X:Cx) (ts:List Expr) (t:TGs):Prop :=
 ∀ (pins:List (Addr×Obj)) (s:Shared) (σ:St) (H:Hp) (vs:List V) (us:List Value) (Q:St->Hp->Prop),Inv X pins σ H s->Vals vs us->t vs σ H Q ->
  wpAny (model X.prog X.w) X.A (assignInOrder ((assignEach ts X.env).map (·.2)) us) (fun _ s'=>∃ σ' H',Inv X pins σ' H' s'/\Q σ' H') X.xe s
abbrev TSet:=V->V->V->Hp->(Hp->Prop)->Prop
def PSet (X:Cx) (t:TSet):Prop :=
 ∀ (pins:List (Addr×Obj)) (s:Shared) (σ:St) (H:Hp) (o i v:V) (ov iv u:Value) (Q:Hp->Prop),Inv X pins σ H s->RelV o ov->RelV i iv->RelV v u->t o i v H Q ->
  wpAny (model X.prog X.w) X.A (setItem ov iv u) (fun _ s'=>∃ H',Inv X pins σ H' s'/\Q H') X.xe s
section
variable {X:Cx} {pos:Pos}
def gName (i:Nat):TG:=fun v σ H Q=>Q (σ.set i (some v)) H
theorem pg_name {i:Nat} {x:Str} (hN:X.N.Nodup) (hi:X.N[i]?=some x) (hx:Loc X.env.scope x) (hf:X.fn x=true\/X.env.scope.names.lookup x=some .local:=by first | exact .inl rfl | exact .inr rfl | assumption):PG X (.Name x pos) (gName i):=by
 intro pins s σ H v u Q I r h
 exact wpAny_assign_Name (store_ok I hN hi hx r (fun s' I'=>⟨_,H,I',h⟩) hf)
def gNil:TGs:=fun vs σ H Q=>vs=[]/\Q σ H
noncomputable def gCons (t:TG) (u:TGs):TGs:=fun vs σ H Q=>∃ v r,vs=v::r/\t v σ H fun σ' H'=>u r σ' H' Q
theorem pgs_nil:PGs X [] gNil:=by
 intro pins s σ H vs us Q I r h
 obtain ⟨e,h⟩:=h
 subst e
 cases r
 exact assignInOrder_nil ⟨σ,H,I,h⟩
theorem pgs_cons {e:Expr} {es:List Expr} {t:TG} {u:TGs} (h1:PG X e t) (h2:PGs X es u) (hs:(assignEach (e::es) X.env).map (·.2)=assign e X.env::(assignEach es X.env).map (·.2):=by rfl):PGs X (e::es) (gCons t u):=by
 intro pins s σ H vs us Q I r h
 obtain ⟨v,vr,e1,h⟩:=h
 subst e1
 cases r with
 | cons r rr =>
  rw [hs]
  refine assignInOrder_cons (thn (h1 pins s σ H _ _ _ I r h) ?_)
  rintro _ s1 ⟨σ1,H1,I1,q1⟩
  exact h2 pins s1 σ1 H1 _ _ Q I1 rr q1
def gTup (K:PySem.W.Frag) (n:Nat) (t:TGs):TG:=fun v σ H Q=>∃ a xs,v=.ref a/\SqT K H a xs/\xs.length=n/\t xs σ H Q
theorem pg_tup {es:List Expr} {k:Nat} {t:TGs} {n:Nat} (hc:X.calm=true) (h:PGs X es t) (hn:(assignEach es X.env).length=n:=by rfl) (hst:(assignEach es X.env).findIdx? (·.1)=none:=by rfl):PG X (.Tuple es k pos) (gTup X.K n t):=by
 intro pins s σ H v u Q I r hw
 obtain ⟨a,xs,e1,hq,hl,hw⟩:=hw
 subst e1
 cases r
 obtain ⟨its,rv,ht,hz⟩:=I.tuple hq
 refine assign_Tuple_tuple (I.ok.hd hc) ht (by simp [hn,<- hl,rv.length]) hst fun h' hx=>?_
 have I1:Inv X pins σ H { s with heap:=h' }:=I.kept (t':=s.toks) fun b o e=>hx b o (zqa4 (zqaf e)) e
 exact h pins _ σ H xs _ Q I1 (by simpa using rv) hw
noncomputable def gSub (to ti:TE) (t:TSet):TG:=fun v σ H Q=>to σ H fun o H1=>ti σ H1 fun i H2=>t o i v H2 fun H3=>Q σ H3
theorem pg_sub {o i : Expr} {to ti : TE} {t : TSet} (ho : PE X o to) (hi : PE X i ti) (hs : PSet X t)
    (ha:∀ v,assign (.Subscript o i pos) X.env v=(do
      let ov <- holding [v] (eval o X.env)
      let iv <- holding [v,ov] (eval i X.env)
      standAt pos
      holding [v,ov,iv] (setItem ov iv v)
      release [v,ov,iv] []):=by intro _;rfl):PG X (.Subscript o i pos) (gSub to ti t):=by
  intro pins s σ H v u Q I r h
  rw [ha]
  refine zqad (zqce (thn (ho pins s σ H _ I h) ?_))
  rintro ov s1 ⟨x,H1,I1,r1,q1⟩
  refine zqad (zqce (thn (hi pins s1 σ H1 _ I1 q1) ?_))
  rintro iv s2 ⟨y,H2,I2,r2,q2⟩
  refine zqad (zqcr (zqad (zqce (thn (hs pins s2 σ H2 x y v ov iv u _ I2 r1 r2 r q2) ?_))))
  rintro _ s3 ⟨H3,I3,q3⟩
  exact wpAny_release ⟨σ,H3,I3,q3⟩
noncomputable def tAsg (te:TE) (g:TG):TS:=fun D σ H=>te σ H fun x H1=>g x σ H1 D.nx
theorem ps_asg {tg e:Expr} {te:TE} {g:TG} (he:PE X e te) (hg:PG X tg g) (hs:swapsWithSole [tg] e pos.line X.env=pure false:=by rfl) (hw:swappedStores [tg] e X.env=pure none:=by rfl) (h1:(assignEach [tg] X.env).map (·.2)=[assign tg X.env]:=by rfl):PS X (.Assign [tg] e pos) (tAsg te g):=by
 intro pins s σ H D I h
 refine wpAny_Assign_stores (thn (he pins s σ H _ I h) ?_) hs hw
 rintro v s1 ⟨x,H1,I1,r1,q1⟩
 rw [h1]
 exact thn (hg pins s1 σ H1 x v _ I1 r1 q1) fun _ s2 q=>q
end
structure It where
 go:Nat->Hp->Prop
 yld:Nat->Hp->V->Hp->Prop
 stop:Nat->Hp->Prop
noncomputable def FpOk (X:Cx) (pins:List (Addr×Obj)) (H:Hp) (b:Addr):Prop :=
 H b=none/\b≠X.env.locals/\b∉X.fs/\(b∈X.ex\/X.s₀.heap.objs.size<=b)/\(∀ x c,X.env.cells.lookup x=some c->c≠b)/\∀ p∈X.pn++pins,p.1≠b
theorem Inv.fpOk {X:Cx} {pins:List (Addr×Obj)} {σ:St} {H H':Hp} {s:Shared} {b:Addr} (I:Inv X pins σ H s) (hb:s.heap.objs.size<=b) (hn:H' b=none):FpOk X pins H' b:=by
 refine ⟨hn,Nat.ne_of_gt (zqao I.lt hb),I.nofs hb,.inr (zqat I.sz hb),fun x c e z=>?_,fun p hp z=>?_⟩
 ·obtain ⟨v,q⟩:=I.cell x c e
  exact absurd (zqao q.lt (by rw [z];exact hb)) (zqbk _)
 ·exact absurd (zqao (zqaf (I.pin p hp).1) (by rw [z];exact hb)) (zqbk _)
structure Turn (P:Program) (w:World) (K:PySem.W.Frag) (tg:Expr) (J:It) (fp:List Addr) (it:Addr) (tn:Nat->Heap->Prop):Prop where
 mem:it∈fp
 obj:∀ i h,tn i h->∀ b∈fp,∃ o,h.get? b=some o/\∀ v,o.data≠.cell v
 keep:∀ i h h',tn i h->(∀ b∈fp,∀ o,h.get? b=some o->h'.get? b=some o)->tn i h'
 item:∀ (X:Cx),X.prog=P->X.w=w->X.K=K->X.calm=true->∀ (i:Nat) (pins:List (Addr×Obj)) (s:Shared) (σ:St) (H:Hp) (E:Value->Shared->Prop),Inv X pins σ H s->(∀ b∈fp,FpOk X pins H b)->tn i s.heap->J.go i H ->
  wpAny (model P w) X.A (pyNext (.ref it)) (fun r s1=>∃ u,r=some u /\
   wpAny (model P w) X.A (letOwnedTupleGo tg (.ref it) u) (fun _ s2=>∃ x H',Inv X pins σ H' s2/\RelV x u/\J.yld i H x H'/\tn (i+1) s2.heap/\∀ b∈fp,H' b=none) E s1) E s
 done:∀ (X:Cx),X.prog=P->X.w=w->X.K=K->X.calm=true->∀ (i:Nat) (pins:List (Addr×Obj)) (s:Shared) (σ:St) (H:Hp) (E:Value->Shared->Prop),Inv X pins σ H s->(∀ b∈fp,FpOk X pins H b)->tn i s.heap->J.stop i H ->
  wpAny (model P w) X.A (pyNext (.ref it)) (fun r s1=>r=none/\Inv X pins σ H s1) E s
 self:∀ (A:Around) (i:Nat) (s:Shared) (Q:Value->Shared->Prop) (E:Value->Shared->Prop),tn i s.heap->Q (.ref it) s->wpAny (model P w) A (pyIter (.ref it)) Q E s
abbrev TI:=St->Hp->(It->Hp->Prop)->Prop
def PIE (X:Cx) (pins:List (Addr×Obj)) (σ:St) (tg:Expr) (R:It->Hp->Prop) (itv:Value) (s2:Shared):Prop :=
 ∃ (it:Addr) (fp:List Addr) (tn:Nat->Heap->Prop) (J:It) (H':Hp),itv=.ref it/\Inv X pins σ H' s2/\Turn X.prog X.w X.K tg J fp it tn/\tn 0 s2.heap/\(∀ b∈fp,FpOk X pins H' b)/\R J H'
def PI (X:Cx) (tg iter:Expr) (wi:TI):Prop :=
 ∀ (pins:List (Addr×Obj)) (s:Shared) (σ:St) (H:Hp) (R:It->Hp->Prop),Inv X pins σ H s->wi σ H R ->
  wpAny (model X.prog X.w) X.A (eval iter X.env) (fun v s1=>wpAny (model X.prog X.w) X.A (pyIter v) (PIE X pins σ tg R) X.xe s1) X.xe s
theorem go_of {M:Model} {A:Around} {E:Value->Shared->Prop} {s:Shared} {tg:Expr} {it:Addr} {u:Value} {o:Obj} {n:String} {vs:Array Value} {Q:Unit->Shared->Prop} (ho:s.heap.get? it=some o) (hc:o.cls=.type n) (hd:o.data=.fields vs) (hn:["enumerate","zip","dict_itemiterator","dict_reverseitemiterator","odict_iterator","itertools.zip_longest","itertools.pairwise"].contains n=false) (hQ:Q () s):wpAny M A (letOwnedTupleGo tg (.ref it) u) Q E s:=by
  unfold letOwnedTupleGo
  cases tg <;> first
    | exact zqas hQ
    | (cases u <;> first
        | exact zqas hQ
        | (refine zqad (wpAny_load ho ?_)
           rw [hc,hd]
           show wpAny M A (if (["enumerate","zip","dict_itemiterator","dict_reverseitemiterator","odict_iterator","itertools.zip_longest","itertools.pairwise"].contains n && vs[0]? == some (rawInt _))=true then _ else _) Q E s
           rw [zqax (by intro h;rw [hn,Bool.false_and] at h;cases h)]
           exact zqas hQ))
def Itl (K:PySem.W.Frag) (a:Addr):It :=
 ⟨fun i H=>∃ xs x,SqL K H a xs/\xs[i]?=some x,fun i H x H'=>H'=H/\∀ xs,SqL K H a xs->xs[i]?=some x,fun i H=>∃ xs,SqL K H a xs/\xs.length<=i⟩
def Itt (K:PySem.W.Frag) (a:Addr):It :=
 ⟨fun i H=>∃ xs x,SqT K H a xs/\xs[i]?=some x,fun i H x H'=>H'=H/\∀ xs,SqT K H a xs->xs[i]?=some x,fun i H=>∃ xs,SqT K H a xs/\xs.length<=i⟩
noncomputable def Itr (lo:Int) (n:Nat):It:=⟨fun i _=>i < n,fun i H x H'=>H'=H/\x=.int (lo+i),fun i _=>n<=i⟩
theorem turn_list {P:Program} {w:World} {K:PySem.W.Frag} {tg:Expr} (a it:Addr):Turn P w K tg (Itl K a) [it] it (fun i h=>h.IsListIter it a i) where
 mem:=by simp
 obj:=fun i h st b hb=>by
  have e:b=it:=by simpa using hb
  subst e
  obtain ⟨o,e,c,d⟩:=st
  exact ⟨o,e,fun v z=>by rw [d] at z;cases z⟩
 keep:=fun i h h' st k=>st.at fun o e=>k it (by simp) o e
 item:=by
  intro X hP hw hK hc i pins s σ H E I hf st hg
  subst hP hw hK
  obtain ⟨xs,x,hq,hx⟩:=hg
  obtain ⟨its,rv,p,hz⟩:=I.list hq
  obtain ⟨u,hu,ru⟩:=rv.get hx
  obtain ⟨f0,f1,f2,f3,f4,f5⟩:=hf it (by simp)
  refine wpAny_pyNext_list_item st p.isList (x:=u) (by simpa using hu) fun h' st' sb=>?_
  have I1:Inv X pins σ H { s with heap:=h' }:=I.turned (t':=s.toks) (fun b o hb e=>(sb.2 b hb).trans e) f0 f1 f3 f4 f5
  obtain ⟨o,e,c,d⟩:=id st'
  exact ⟨u,rfl,go_of (s:={ s with heap:=h' }) e c d (by decide) ⟨x,H,I1,ru,⟨rfl,fun ys hy=>by rw [I.list_inj hy hq];exact hx⟩,st',fun b hb=>(hf b hb).1⟩⟩
 done:=by
  intro X hP hw hK hc i pins s σ H E I hf st hg
  subst hP hw hK
  obtain ⟨xs,hq,hx⟩:=hg
  obtain ⟨its,rv,p,hz⟩:=I.list hq
  obtain ⟨f0,f1,f2,f3,f4,f5⟩:=hf it (by simp)
  have hl:=rv.length
  exact wpAny_pyNext_list_end (I.ok.hd hc) st p.isList (by simp;omega) fun h' eb=>⟨rfl,I.turned (t':=s.toks) (fun b o hb e=>eb b o hb e) f0 f1 f3 f4 f5⟩
 self:=fun _ _ _ _ _ st h=>wpAny_pyIter_listiter st h
theorem turn_tuple {P:Program} {w:World} {K:PySem.W.Frag} {tg:Expr} (a it:Addr):Turn P w K tg (Itt K a) [it] it (fun i h=>h.IsTupleIter it a i) where
 mem:=by simp
 obj:=fun i h st b hb=>by
  have e:b=it:=by simpa using hb
  subst e
  obtain ⟨o,e,c,d⟩:=st
  exact ⟨o,e,fun v z=>by rw [d] at z;cases z⟩
 keep:=fun i h h' st k=>st.at fun o e=>k it (by simp) o e
 item:=by
  intro X hP hw hK hc i pins s σ H E I hf st hg
  subst hP hw hK
  obtain ⟨xs,x,hq,hx⟩:=hg
  obtain ⟨its,rv,p,hz⟩:=I.tuple hq
  obtain ⟨u,hu,ru⟩:=rv.get hx
  obtain ⟨f0,f1,f2,f3,f4,f5⟩:=hf it (by simp)
  refine wpAny_pyNext_tuple_item st (show s.heap.IsTuple a its.toArray from p) (x:=u) (by simpa using hu) fun h' st' sb=>?_
  have I1:Inv X pins σ H { s with heap:=h' }:=I.turned (t':=s.toks) (fun b o hb e=>(sb.2 b hb).trans e) f0 f1 f3 f4 f5
  obtain ⟨o,e,c,d⟩:=id st'
  exact ⟨u,rfl,go_of (s:={ s with heap:=h' }) e c d (by decide) ⟨x,H,I1,ru,⟨rfl,fun ys hy=>by rw [I.tuple_inj hy hq];exact hx⟩,st',fun b hb=>(hf b hb).1⟩⟩
 done:=by
  intro X hP hw hK hc i pins s σ H E I hf st hg
  subst hP hw hK
  obtain ⟨xs,hq,hx⟩:=hg
  obtain ⟨its,rv,p,hz⟩:=I.tuple hq
  obtain ⟨f0,f1,f2,f3,f4,f5⟩:=hf it (by simp)
  have hl:=rv.length
  exact wpAny_pyNext_tuple_end (I.ok.hd hc) st (show s.heap.IsTuple a its.toArray from p) (by simp;omega) fun h' eb=>⟨rfl,I.turned (t':=s.toks) (fun b o hb e=>eb b o hb e) f0 f1 f3 f4 f5⟩
 self:=fun _ _ _ _ _ st h=>wpAny_pyIter_tupleiter st h
theorem turn_range {P:Program} {w:World} {K:PySem.W.Frag} {tg:Expr} (it:Addr) (lo:Int) (n:Nat):Turn P w K tg (Itr lo n) [it] it (fun i h=>IsRangeIter h it (lo+(i:Nat) * 1) ((n:Int) - (i:Nat)) 1) where
 mem:=by simp
 obj:=fun i h st b hb=>by
  have e:b=it:=by simpa using hb
  subst e
  exact ⟨_,st,fun v z=>by
   have z':Data.fields _=Data.cell v:=z
   cases z'⟩
 keep:=fun i h h' st k=>k it (by simp) _ st
 item:=by
  intro X hP hw hK hc i pins s σ H E I hf st hg
  subst hP hw hK
  obtain ⟨f0,f1,f2,f3,f4,f5⟩:=hf it (by simp)
  have W:=Walks.range (prog:=X.prog) (w:=X.w) (I.ok.hd hc) it lo 1 n
  refine W.item i s _ _ hg st fun v h' tk hv st' kk=>?_
  obtain ⟨t,rfl⟩:=hv
  have I1:Inv X pins σ H { s with heap:=h',toks:=tk }:=I.turned (fun b o hb e=>kk b o (by simpa using hb) e) f0 f1 f3 f4 f5
  refine ⟨_,rfl,go_of (s:={ s with heap:=h',toks:=tk }) (n := "range_iterator") st' rfl rfl (by decide) ⟨.int (lo+i),H,I1,⟨t,?_⟩,⟨rfl,rfl⟩,st',fun b hb=>(hf b hb).1⟩⟩
  rw [Int.mul_one]
 done:=by
  intro X hP hw hK hc i pins s σ H E I hf st hg
  subst hP hw hK
  obtain ⟨f0,f1,f2,f3,f4,f5⟩:=hf it (by simp)
  exact wpAny_pyNext_range_end (I.ok.hd hc) st (by have:n<=i:=hg;omega) fun h' eb=>⟨rfl,I.turned (t':=s.toks) (fun b o hb e=>eb b o hb e) f0 f1 f3 f4 f5⟩
 self:=fun _ _ _ _ _ st h=>wpAny_pyIter_rangeiter st h
section
variable {X:Cx} {tg:Expr}
def iList (K:PySem.W.Frag) (tl:TE):TI:=fun σ H R=>tl σ H fun x H1=>∃ a,x=.ref a/\(∃ xs,SqL K H1 a xs)/\R (Itl K a) H1
def iTup (K:PySem.W.Frag) (tl:TE):TI:=fun σ H R=>tl σ H fun x H1=>∃ a,x=.ref a/\(∃ xs,SqT K H1 a xs)/\R (Itt K a) H1
theorem pi_list {l:Expr} {tl:TE} (hl:PE X l tl):PI X tg l (iList X.K tl):=by
 intro pins s σ H R I h
 refine thn (hl pins s σ H _ I h) ?_
 rintro v s1 ⟨x,H1,I1,r1,q1⟩
 obtain ⟨a,e,⟨xs,hq⟩,q⟩:=q1
 subst e
 cases r1
 obtain ⟨its,rv,p,hz⟩:=I1.list hq
 refine wpAny_pyIter_list p.isList ?_
 refine ⟨s1.heap.objs.size,[s1.heap.objs.size],_,_,H1,rfl,I1.kept (t':=s1.toks) fun b o e=>zqah _ e,turn_list a _,⟨_,zqa7 _ rfl,rfl,rfl⟩,fun b hb=>?_,q⟩
 have e:b=s1.heap.objs.size:=by simpa using hb
 subst e
 exact I1.fpOk (zqae _) (I1.hok.fresh (zqae _))
theorem pi_tup {l:Expr} {tl:TE} (hl:PE X l tl):PI X tg l (iTup X.K tl):=by
 intro pins s σ H R I h
 refine thn (hl pins s σ H _ I h) ?_
 rintro v s1 ⟨x,H1,I1,r1,q1⟩
 obtain ⟨a,e,⟨xs,hq⟩,q⟩:=q1
 subst e
 cases r1
 obtain ⟨its,rv,p,hz⟩:=I1.tuple hq
 refine wpAny_pyIter_tuple (show s1.heap.IsTuple a its.toArray from p) ?_
 refine ⟨s1.heap.objs.size,[s1.heap.objs.size],_,_,H1,rfl,I1.kept (t':=s1.toks) fun b o e=>zqah _ e,turn_tuple a _,⟨_,zqa7 _ rfl,rfl,rfl⟩,fun b hb=>?_,q⟩
 have e:b=s1.heap.objs.size:=by simpa using hb
 subst e
 exact I1.fpOk (zqae _) (I1.hok.fresh (zqae _))
theorem range_it {pins:List (Addr×Obj)} {σ:St} {H:Hp} {s:Shared} {R:It->Hp->Prop} {E:Value->Shared->Prop} {lo hi:Int} {t u v:Tok} {tk:Nat} (I:Inv X pins σ H s) (h1:-(2 ^ 62)<=lo) (h2:lo < 2 ^ 62) (h3:-(2 ^ 62)<=hi) (h4:hi < 2 ^ 62) (q:R (Itr lo (hi - lo).toNat) H):wpAny (model X.prog X.w) X.A (pyIter (.ref s.heap.objs.size)) (PIE X pins σ tg R) E { s with heap:=s.heap.push { cls:=.type "range",data:=.fields #[.int lo t,.int hi u,.int 1 v] },toks:=tk }:=by
 refine wpAny_pyIter_range (IsRange.new ..) (small_one h1 h2 h3 h4) ?_
 have I1:Inv X pins σ H { s with heap:=s.heap.push { cls:=.type "range",data:=.fields #[.int lo t,.int hi u,.int 1 v] },toks:=tk }:=I.kept fun b o e=>zqah _ e
 refine ⟨(s.heap.push { cls:=.type "range",data:=.fields #[.int lo t,.int hi u,.int 1 v] }).objs.size,[(s.heap.push { cls:=.type "range",data:=.fields #[.int lo t,.int hi u,.int 1 v] }).objs.size],_,_,H,rfl,
  I1.kept (t':=tk) fun b o e=>zqah _ e,turn_range _ lo (hi - lo).toNat,?_,fun b hb=>?_,q⟩
 ·have e1:lo+((0:Nat):Int) * 1=lo:=by simp
  have e2:(((hi - lo).toNat:Nat):Int) - ((0:Nat):Int)=Builtin.Range.rangeSize lo hi 1:=by rw [rangeSize_one];split <;> omega
  show IsRangeIter _ _ (lo+((0:Nat):Int) * 1) ((((hi - lo).toNat:Nat):Int) - ((0:Nat):Int)) 1
  rw [e1,e2]
  exact zqa7 _ rfl
 ·have e:b=(s.heap.push { cls:=.type "range",data:=.fields #[.int lo t,.int hi u,.int 1 v] }).objs.size:=by simpa using hb
  subst e
  exact I1.fpOk (zqae _) (I1.hok.fresh (zqae _))
def iRng1 (ta:TA):TI:=fun σ H R=>ta σ H fun vs H1=>∃ j:Int,vs=[.int j]/\-(2 ^ 62)<=j/\j < 2 ^ 62/\R (Itr 0 j.toNat) H1
theorem pi_range1 {a:Expr} {ta:TA} {p pos:Pos} (hg:Gl X "range") (hm:X.mg "range" = none) (ha:PA X [a] ta) (hs:starEach [a] X.env=[(false,eval a X.env)]:=by rfl):PI X tg (.Call (.Name "range" p) [a] [] pos) (iRng1 ta):=by
 intro pins s σ H R I h
 refine Call_ (ld_blt I hg hm boot_range (PyProof.Rows.callWith_type1 (thn (ha pos pins s σ H _ I h) ?_) hs rfl))
 rintro us s1 ⟨vs,H1,I1,r1,q1⟩
 obtain ⟨j,e,q1,q2,q⟩:=q1
 subst e
 cases r1 with
 | cons r rr =>
  cases rr
  obtain ⟨t,rfl⟩:=r
  exact call_range_1 (range_it I1 (∅) (∅) q1 q2 (by simpa using q))
noncomputable def tFor (wi:TI) (g:TG) (tb:TS):TS:=fun D σ H=>wi σ H fun J H1=>∃ W:Nat->Nat->St->Hp->Prop,(∃ m,W 0 m σ H1)/\∀ i m σ H,W i m σ H ->
 (J.stop i H/\D.nx σ H)\/(J.go i H/\∃ N:St->Hp->Prop,(∀ σ' H',N σ' H'->∃ m',m' < m/\W (i+1) m' σ' H')/\∀ x H',J.yld i H x H'->g x σ H' fun σ2 H2=>tb { D with nx:=N,ct:=N,bk:=D.nx } σ2 H2)
noncomputable def pinsAt (fp:List Addr) (h:Heap):List (Addr×Obj):=fp.filterMap fun b=>(h.get? b).map fun o=>(b,o)
theorem mem_pinsAt {fp:List Addr} {h:Heap} {b:Addr} {o:Obj} (hb:b∈fp) (e:h.get? b=some o):(b,o)∈pinsAt fp h:=List.mem_filterMap.mpr ⟨b,hb,by rw [e];rfl⟩
theorem of_pinsAt {fp:List Addr} {h:Heap} {p:Addr×Obj} (hp:p∈pinsAt fp h):p.1∈fp/\h.get? p.1=some p.2:=by
 obtain ⟨b,hb,e⟩:=List.mem_filterMap.mp hp
 cases q:h.get? b with
 | none=>rw [q] at e;cases e
 | some o =>
  rw [q] at e
  have e':(b,o)=p:=zqag e
  subst e'
  exact ⟨hb,q⟩
theorem Inv.pinned {pins:List (Addr×Obj)} {σ:St} {H:Hp} {s:Shared} {fp:List Addr} (I:Inv X pins σ H s) (hf:∀ b∈fp,FpOk X pins H b) (ho:∀ b∈fp,∃ o,s.heap.get? b=some o/\∀ v,o.data≠.cell v):Inv X (pins++pinsAt fp s.heap) σ H s :=
 I.pins_of fun p hp=>(zqbx.mp hp).elim (fun z=>I.pin p (zqan _ z)) fun z=>by
  obtain ⟨hb,e⟩:=of_pinsAt z
  obtain ⟨f0,f1,f2,_⟩:=hf p.1 hb
  obtain ⟨o,e',d⟩:=ho p.1 hb
  rw [e] at e';cases e'
  exact ⟨e,f0,f1,f2,d⟩
theorem Inv.unpinned {pins pl:List (Addr×Obj)} {σ:St} {H:Hp} {s:Shared} (I:Inv X (pins++pl) σ H s):Inv X pins σ H s:=I.pins_of fun p hp=>I.pin p (zqan _ (zqbr _ hp))
theorem ps_for {iter:Expr} {body:List Stmt} {wi:TI} {g:TG} {tb:TS} {pos:Pos} (hp:PassesOwn (model X.prog X.w) X.A X.env X.xe) (hc:X.calm=true) (hi:PI X tg iter wi) (hg:PG X tg g) (hb:PSs X body tb) (hs:∀ x,foldedSetIterable iter X.env x=pure x:=by intro _;rfl):PS X (.For tg iter body [] pos) (tFor wi g tb):=by
 intro pins s σ H D I h
 refine wpAny_For (thn (hi pins s σ H _ I h) fun v s1 h1=>thn h1 fun itv s2 h2=>?_) hs
 obtain ⟨it,fp,tn,J,H2,e,I2,T,st2,f2,W,⟨m0,w0⟩,turn⟩:=h2
 subst e
 have stat:∀ {H':Hp},(∀ b∈fp,H' b=none)->∀ b∈fp,FpOk X pins H' b:=fun hn b hb=>⟨hn b hb,(f2 b hb).2⟩
 refine codeAny_forLoop_any (fun n s'=>∃ i σ' H',Inv X pins σ' H' s'/\tn i s'.heap/\(∀ b∈fp,H' b=none)/\W i n σ' H') ?_ m0 ⟨0,σ,H2,I2,st2,fun b hb=>(f2 b hb).1,w0⟩
 rintro n s3 ⟨i,σ3,H3,I3,st3,fr3,w3⟩
 rcases turn i n σ3 H3 w3 with ⟨stop,qn⟩|⟨go,N,hN,step⟩
 ·refine zqcg hp (thn (T.done X rfl rfl rfl hc i pins s3 σ3 H3 X.xe I3 (stat fr3) st3 stop) ?_)
  rintro r s4 ⟨rfl,I4⟩
  exact zqbj ⟨σ3,H3,I4,qn⟩
 ·refine zqcg hp (thn (T.item X rfl rfl rfl hc i pins s3 σ3 H3 X.xe I3 (stat fr3) st3 go) ?_)
  rintro r s4 ⟨u,rfl,h4⟩
  refine zqcg hp (thn h4 ?_)
  rintro _ s5 ⟨x,H5,I5,r5,y5,st5,fr5⟩
  have I5':=I5.pinned (stat fr5) (T.obj _ _ st5)
  refine zqcg hp (thn (hg _ s5 σ3 H5 x u _ I5' r5 (step x H5 y5)) ?_)
  rintro _ s6 ⟨σ6,H6,I6,q6⟩
  refine zqcg hp (thn (hb _ s6 σ6 H6 _ I6 q6) fun f s7 q7=>?_)
  have again:∀ {σ7:St} {H7:Hp},Inv X (pins++pinsAt fp s5.heap) σ7 H7 s7->N σ7 H7->∃ m,m < n/\∃ i σ' H',Inv X pins σ' H' s7/\tn i s7.heap/\(∀ b∈fp,H' b=none)/\W i m σ' H':=fun {σ7 H7} I7 n7=>by
   obtain ⟨m',hm,w7⟩:=hN σ7 H7 n7
   refine ⟨m',hm,i+1,σ7,H7,I7.unpinned,T.keep _ _ _ st5 fun b hb o e=>(I7.pin (b,o) (zqan _ (zqan _ (mem_pinsAt hb e)))).1,fun b hb=>?_,w7⟩
   obtain ⟨o,e,d⟩:=T.obj _ _ st5 b hb
   exact (I7.pin (b,o) (zqan _ (zqan _ (mem_pinsAt hb e)))).2.1
  cases f with
  | next=>obtain ⟨σ7,H7,I7,n7⟩:=q7;exact again I7 n7
  | cont=>obtain ⟨σ7,H7,I7,n7⟩:=q7;exact again I7 n7
  | brk=>obtain ⟨σ7,H7,I7,q7⟩:=q7;exact ⟨σ7,H7,I7.unpinned,q7⟩
  | ret v=>obtain ⟨x7,σ7,H7,I7,r7,q7⟩:=q7;exact ⟨x7,σ7,H7,I7.unpinned,r7,q7⟩
end
abbrev R2:=V->V->Hp->VK->Prop
def OpR (X:Cx) (f:Value->Value->Sem Value) (r:R2):Prop :=
 ∀ (pins:List (Addr×Obj)) (s:Shared) (σ:St) (H:Hp) (x y:V) (v u:Value) (Q:VK),Inv X pins σ H s->RelV x v->RelV y u->r x y H Q ->
  wpAny (model X.prog X.w) X.A (f v u) (EP X pins σ Q) X.xe s
def UnR (X:Cx) (f:Value->Sem Value) (r:V->Hp->VK->Prop):Prop :=
 ∀ (pins:List (Addr×Obj)) (s:Shared) (σ:St) (H:Hp) (x:V) (v:Value) (Q:VK),Inv X pins σ H s->RelV x v->r x H Q ->
  wpAny (model X.prog X.w) X.A (f v) (EP X pins σ Q) X.xe s
def CallR (X:Cx) (f:Value) (r:List V->Hp->VK->Prop):Prop :=
 ∀ (pins:List (Addr×Obj)) (s:Shared) (σ:St) (H:Hp) (xs:List V) (us:List Value) (Q:VK),Inv X pins σ H s->Vals xs us->r xs H Q ->
  wpAny (model X.prog X.w) X.A (call f us) (EP X pins σ Q) X.xe s
def TruR (X:Cx) (r:V->Hp->(Bool->Hp->Prop)->Prop):Prop :=
 ∀ (pins:List (Addr×Obj)) (s:Shared) (σ:St) (H:Hp) (x:V) (v:Value) (Q:Bool->Hp->Prop),Inv X pins σ H s->RelV x v->r x H Q ->
  wpAny (model X.prog X.w) X.A (truthy v) (TP X pins σ Q) X.xe s
noncomputable def tOp (r:R2) (ta tb:TE):TE:=fun σ H Q=>ta σ H fun x H1=>tb σ H1 fun y H2=>r x y H2 Q
noncomputable def tUn (r:V->Hp->VK->Prop) (ta:TE):TE:=fun σ H Q=>ta σ H fun x H1=>r x H1 Q
noncomputable def rI (C:Int->Int->Prop) (g:Int->Int->V):R2:=fun x y H Q=>∃ i j,x=.int i/\y=.int j/\C i j/\Q (g i j) H
noncomputable def rI0 (g:Int->Int->V):R2:=fun x y H Q=>∃ i j,x=.int i/\y=.int j/\Q (g i j) H
noncomputable def rU (g:Int->V):V->Hp->VK->Prop:=fun x H Q=>∃ i,x=.int i/\Q (g i) H
section
variable {X:Cx} {a b c:Expr} {ta tb tc:TE} {pos:Pos}
theorem binT (ha:PE X a ta) (hb:PE X b tb) {pins:List (Addr×Obj)} {s:Shared} {σ:St} {H:Hp} {R:V->V->Hp->Prop} (I:Inv X pins σ H s) (h:ta σ H fun x H1=>tb σ H1 fun y H2=>R x y H2) {Q:Value->Shared->Prop} {f:Value->Value->Sem Value} (hf:∀ v u s2 x y H2,Inv X pins σ H2 s2->RelV x v->RelV y u->R x y H2->wpAny (model X.prog X.w) X.A (f v u) Q X.xe s2):wpAny (model X.prog X.w) X.A (eval a X.env) (fun v s₁=>wpAny (model X.prog X.w) X.A (eval b X.env) (fun u s₂=>wpAny (model X.prog X.w) X.A (f v u) Q X.xe s₂) X.xe s₁) X.xe s:=by
 refine thn (ha pins s σ H _ I h) ?_
 rintro v s1 ⟨x,H1,I1,r1,q1⟩
 refine thn (hb pins s1 σ H1 _ I1 q1) ?_
 rintro u s2 ⟨y,H2,I2,r2,q2⟩
 exact hf v u s2 x y H2 I2 r1 r2 q2
theorem pe_op {op:Operator} {r:R2} (ho:OpR X (binaryOp op) r) (ha:PE X a ta) (hb:PE X b tb):PE X (.BinOp a op b pos) (tOp r ta tb):=by
 intro pins s σ H Q I h
 exact wpAny_BinOp (binT ha hb I h fun v u s2 x y H2 I2 rx ry q=>ho pins s2 σ H2 x y v u Q I2 rx ry q)
theorem pe_un {op:UnaryOp} {r:V->Hp->VK->Prop} (ho:UnR X (unaryOp op) r) (ha:PE X a ta):PE X (.UnaryOp op a pos) (tUn r ta):=by
 intro pins s σ H Q I h
 exact UnaryOp_ (thn (ha pins s σ H _ I h) fun v s1 ⟨x,H1,I1,r1,q1⟩=>ho pins s1 σ H1 x v Q I1 r1 q1)
theorem opI {f:Value->Value->Sem Value} {C:Int->Int->Prop} {g:Int->Int->Int} (rule:∀ (i j:Int) (t u:Tok) (s:Shared) (Q:Value->Shared->Prop) (E:Value->Shared->Prop),C i j->Q (.int (g i j) s.toks) { s with toks:=s.toks+1 }->wpAny (model X.prog X.w) X.A (f (.int i t) (.int j u)) Q E s):OpR X f (rI C fun i j=>.int (g i j)):=by
 intro pins s σ H x y v u Q I rx ry h
 obtain ⟨i,j,rfl,rfl,hc,q⟩:=h
 obtain ⟨t,rfl⟩:=rx
 obtain ⟨t',rfl⟩:=ry
 exact rule i j t t' s _ _ hc ⟨.int (g i j),H,I.tok _,⟨_,rfl⟩,q⟩
theorem opI0 {f:Value->Value->Sem Value} {g:Int->Int->Int} (rule:∀ (i j:Int) (t u:Tok) (s:Shared) (Q:Value->Shared->Prop) (E:Value->Shared->Prop),Q (.int (g i j) s.toks) { s with toks:=s.toks+1 }->wpAny (model X.prog X.w) X.A (f (.int i t) (.int j u)) Q E s):OpR X f (rI0 fun i j=>.int (g i j)):=by
 intro pins s σ H x y v u Q I rx ry h
 obtain ⟨i,j,rfl,rfl,q⟩:=h
 obtain ⟨t,rfl⟩:=rx
 obtain ⟨t',rfl⟩:=ry
 exact rule i j t t' s _ _ ⟨.int (g i j),H,I.tok _,⟨_,rfl⟩,q⟩
theorem opB0 {f:Value->Value->Sem Value} {g:Int->Int->Bool} (rule:∀ (i j:Int) (t u:Tok) (s:Shared) (Q:Value->Shared->Prop) (E:Value->Shared->Prop),Q (.bool (g i j)) s->wpAny (model X.prog X.w) X.A (f (.int i t) (.int j u)) Q E s):OpR X f (rI0 fun i j=>.bl (g i j)):=by
 intro pins s σ H x y v u Q I rx ry h
 obtain ⟨i,j,rfl,rfl,q⟩:=h
 obtain ⟨t,rfl⟩:=rx
 obtain ⟨t',rfl⟩:=ry
 exact rule i j t t' s _ _ ⟨.bl (g i j),H,I,rfl,q⟩
def CDiv (i j:Int):Prop:=0 < j/\j < 1073741824
noncomputable def CPow (i j:Int):Prop:=0<=j/\j<=1000000/\i.natAbs < 2 ^ 64
noncomputable def CMul (i j:Int):Prop:=(-(2 ^ 64) < i/\i < 2 ^ 64)\/(-(2 ^ 64) < j/\j < 2 ^ 64)
theorem CMul.ok {i j:Int} (h:CMul i j):IntMulOk i j:=by
 rcases h with ⟨h1,h2⟩|⟨h1,h2⟩
 ·exact .of_left (intBits_le_64 h1 h2)
 ·exact .of_right (intBits_le_64 h1 h2)
theorem op_add:OpR X (binaryOp .Add) (rI0 fun i j=>.int (i+j)):=opI0 fun _ _ _ _ _ _ _ q=>add_int q
theorem op_sub:OpR X (binaryOp .Sub) (rI0 fun i j=>.int (i - j)):=opI0 fun _ _ _ _ _ _ _ q=>sub_int q
theorem op_mul:OpR X (binaryOp .Mult) (rI CMul fun i j=>.int (i * j)):=opI fun _ _ _ _ _ _ _ hc q=>mul_int q hc.ok
theorem op_fdiv:OpR X (binaryOp .FloorDiv) (rI CDiv fun i j=>.int (i / j)):=opI fun i j _ _ _ _ _ hc q=>by
 have h1:(0:Int) < j:=hc.1
 have h2:j < 1073741824:=hc.2
 exact floordiv_int (∅) (by rw [Int.fdiv_eq_ediv_of_nonneg i (∅)];exact q) (.inl (PyProof.noPylong_small (∅)))
theorem op_mod:OpR X (binaryOp .Mod) (rI (fun _ j=>0 < j) fun i j=>.int (i % j)):=opI fun i j _ _ _ _ _ hc q=>by
 have h1:(0:Int) < j:=hc
 exact mod_int' (∅) (by rw [Int.fmod_eq_emod_of_nonneg i (∅)];exact q)
theorem op_pow:OpR X (binaryOp .Pow) (rI CPow fun i j=>.int (i ^ j.toNat)):=opI fun _ _ _ _ _ _ _ hc q=>pow_int_small hc.1 hc.2.1 hc.2.2 q
theorem unI {f:Value->Sem Value} {g:Int->Int} (rule:∀ (i:Int) (t:Tok) (s:Shared) (Q:Value->Shared->Prop) (E:Value->Shared->Prop),Q (.int (g i) s.toks) { s with toks:=s.toks+1 }->wpAny (model X.prog X.w) X.A (f (.int i t)) Q E s):UnR X f (rU fun i=>.int (g i)):=by
 intro pins s σ H x v Q I rx h
 obtain ⟨i,rfl,q⟩:=h
 obtain ⟨t,rfl⟩:=rx
 exact rule i t s _ _ ⟨.int (g i),H,I.tok _,⟨_,rfl⟩,q⟩
theorem un_neg:UnR X (unaryOp .USub) (rU fun i=>.int (-i)):=unI fun _ _ _ _ _ q=>neg_int q
end
section
variable {X:Cx} {a b c:Expr} {ta tb tc:TE} {pos:Pos}
theorem fin_bl {pins:List (Addr×Obj)} {σ:St} {H:Hp} {s:Shared} {Q:VK} {k k':Bool} (I:Inv X pins σ H s) (q:Q (.bl k) H) (e:k=k'):EP X pins σ Q (.bool k') s:=by
 subst e
 exact ⟨.bl k,H,I,rfl,q⟩
theorem op_lt:OpR X (compareOp .Lt) (rI0 fun i j=>.bl (decide (i < j))):=opB0 fun _ _ _ _ _ _ _ q=>lt_int q
theorem op_le:OpR X (compareOp .LtE) (rI0 fun i j=>.bl (decide (i<=j))):=opB0 fun _ _ _ _ _ _ _ q=>le_int q
theorem op_gt:OpR X (compareOp .Gt) (rI0 fun i j=>.bl (decide (j < i))):=opB0 fun _ _ _ _ _ _ _ q=>gt_int q
theorem op_ge:OpR X (compareOp .GtE) (rI0 fun i j=>.bl (decide (j<=i))):=opB0 fun _ _ _ _ _ _ _ q=>ge_int q
theorem op_lt_str:OpR X (compareOp .Lt) (fun x y H Q=>∃ i j,x=.str i/\y=.str j/\Q (.bl (decide (i.cps.toList < j.cps.toList))) H):=by
 intro pins s σ H x y v u Q I rx ry h
 obtain ⟨i,j,rfl,rfl,q⟩:=h
 obtain ⟨t,rfl⟩:=rx
 obtain ⟨t',rfl⟩:=ry
 exact lt_str (fin_bl I q rfl)
theorem op_isN:OpR X (compareOp .Is) (fun x y H Q=>y=.non/\Q (.bl (decide (x=.non))) H):=by
 intro pins s σ H x y v u Q I rx ry h
 obtain ⟨rfl,q⟩:=h
 cases ry
 refine is_none_gen (fin_bl I q ?_)
 cases x <;> first
  | (cases rx;rfl)
  | (obtain ⟨t,rfl⟩:=rx;rfl)
theorem op_notN:OpR X (compareOp .IsNot) (fun x y H Q=>y=.non/\Q (.bl (!decide (x=.non))) H):=by
 intro pins s σ H x y v u Q I rx ry h
 obtain ⟨rfl,q⟩:=h
 cases ry
 refine isnot_none_gen (fin_bl I q ?_)
 cases x <;> first
  | (cases rx;rfl)
  | (obtain ⟨t,rfl⟩:=rx;rfl)
theorem pe_cmpR {op:CmpOp} {r:R2} (ho:OpR X (compareOp op) r) (ha:PE X a ta) (hb:PE X b tb) (hm:behindInMarks op b=false):PE X (.Compare a [op] [b] pos) (tOp r ta tb):=by
 intro pins s σ H Q I h
 exact wpAny_Compare1 (binT ha hb I h fun v u s2 x y H2 I2 rx ry q=>ho pins s2 σ H2 x y v u Q I2 rx ry q) hm
noncomputable def tTest (t:TE):TT:=fun σ H Q=>t σ H fun x H'=>∃ k,x=.bl k/\Q k H'
theorem pt_cmpR {op:CmpOp} {r:R2} (ho:OpR X (compareOp op) r) (ha:PE X a ta) (hb:PE X b tb) (hm:behindInMarks op b=false):PT X (.Compare a [op] [b] pos) (tTest (tOp r ta tb)):=by
 intro pins s σ H Q I h
 refine wpAny_isTrue_Compare1 (thn (ha pins s σ H _ I h) fun v s1 ⟨x,H1,I1,r1,q1⟩=>thn (hb pins s1 σ H1 _ I1 q1) fun u s2 ⟨y,H2,I2,r2,q2⟩ =>
  thn (ho pins s2 σ H2 x y v u _ I2 r1 r2 q2) fun c s3 ⟨z,H3,I3,r3,k,e,q3⟩=>?_) hm
 subst e
 cases r3
 exact zqbz ⟨H3,I3,q3⟩
noncomputable def tChain (r r':R2) (ta tb tc:TE):TE:=fun σ H Q=>ta σ H fun x H1=>tb σ H1 fun y H2=>r x y H2 fun z H3=>∃ k,z=.bl k /\
 (if k=true then tc σ H3 fun w' H4=>r' y w' H4 Q else Q (.bl false) H3)
theorem pe_chain {op op':CmpOp} {r r':R2} (ho:OpR X (compareOp op) r) (ho':OpR X (compareOp op') r') (ha:PE X a ta) (hb:PE X b tb) (hc:PE X c tc) (hm:lastMarks [op,op'] [b,c]=false:=by with_unfolding_all rfl):PE X (.Compare a [op,op'] [b,c] pos) (tChain r r' ta tb tc):=by
 intro pins s σ H Q I h
 refine Compare_chain (thn (ha pins s σ H _ I h) fun v s1 ⟨x,H1,I1,r1,q1⟩=>chain_link (thn (hb pins s1 σ H1 _ I1 q1) fun u s2 ⟨y,H2,I2,r2,q2⟩ =>
  thn (ho pins s2 σ H2 x y v u _ I2 r1 r2 q2) fun d s3 ⟨z,H3,I3,r3,k,e,q3⟩=>?_)) hm
 subst e
 cases r3
 refine zqbz ?_
 cases k with
 | false=>exact ite_ff ⟨.bl false,H3,I3,rfl,q3⟩
 | true=>exact ite_tt (chain_last (thn (hc pins s3 σ H3 _ I3 q3) fun w' s4 ⟨z',H4,I4,r4,q4⟩=>ho' pins s4 σ H4 y z' u w' Q I4 r2 r4 q4))
theorem pt_chain {op op':CmpOp} {r r':R2} (ho:OpR X (compareOp op) r) (ho':OpR X (compareOp op') r') (ha:PE X a ta) (hb:PE X b tb) (hc:PE X c tc) (hm:lastMarks [op,op'] [b,c]=false:=by with_unfolding_all rfl):PT X (.Compare a [op,op'] [b,c] pos) (tTest (tChain r r' ta tb tc)):=by
 intro pins s σ H Q I h
 refine isTrue_chain (thn (ha pins s σ H _ I h) fun v s1 ⟨x,H1,I1,r1,q1⟩=>test_link (thn (hb pins s1 σ H1 _ I1 q1) fun u s2 ⟨y,H2,I2,r2,q2⟩ =>
  thn (ho pins s2 σ H2 x y v u _ I2 r1 r2 q2) fun d s3 ⟨z,H3,I3,r3,k,e,q3⟩=>?_)) hm
 subst e
 cases r3
 refine zqbz ?_
 cases k with
 | false =>
  obtain ⟨k',e',q'⟩:=q3
  cases e'
  exact ite_ff ⟨H3,I3,q'⟩
 | true =>
  refine ite_tt (test_last (thn (hc pins s3 σ H3 _ I3 q3) fun w' s4 ⟨z',H4,I4,r4,q4⟩=>thn (ho' pins s4 σ H4 y z' u w' _ I4 r2 r4 q4) fun d' s5 ⟨z2,H5,I5,r5,k2,e2,q5⟩=>?_))
  subst e2
  cases r5
  exact zqbz ⟨H5,I5,q5⟩
def TruV (K:PySem.W.Frag) (x:V) (H:Hp) (k:Bool):Prop :=
 match x with
 | .non=>k=false
 | .bl b=>k=b
 | .int i=>k=(i != 0)
 | .str y=>y.length<=sizeLine/\k=((y.length:Int) != 0)
 | .byt y=>y.size<=sizeLine/\k=((y.size:Int) != 0)
 | .ref p=>(∃ xs,SqL K H p xs/\k=!xs.isEmpty)\/(∃ xs,SqT K H p xs/\k=!xs.isEmpty)\/∃ kvs,H p=some (.dK kvs)/\k=!kvs.isEmpty
 | _=>False
theorem isEmpty_kv {κ:Type} {kvs:List (κ×V)} {vs:List (κ×Value)} (r:KV kvs vs):(!vs.isEmpty)=!kvs.isEmpty:=by
 cases r <;> rfl
theorem isEmpty_of {xs:List V} {its:List Value} (r:Vals xs its):(!its.toArray.isEmpty)=!xs.isEmpty:=by
 cases r <;> simp
theorem line63:(sizeLine:Nat) < 2 ^ 63:=by rw [sizeLine_eq];decide
theorem tru_ok:TruR X (fun x H Q=>∃ k,TruV X.K x H k/\Q k H):=by
 intro pins s σ H x v Q I rx h
 obtain ⟨k,e,q⟩:=h
 have hl:=line63
 have hs:sizeLine=16777216:=sizeLine_eq
 cases x with
 | non =>
  cases rx
  have e':k=false:=e
  subst e'
  exact truthy_none ⟨H,I,q⟩
 | bl b =>
  cases rx
  have e':k=b:=e
  subst e'
  exact zqbz ⟨H,I,q⟩
 | int i =>
  obtain ⟨t,rfl⟩:=rx
  have e':k=(i != 0):=e
  subst e'
  exact PySem.P.truthy_int ⟨H,I,q⟩
 | str y =>
  obtain ⟨t,rfl⟩:=rx
  obtain ⟨hy,e'⟩:y.length<=sizeLine/\k=((y.length:Int) != 0):=e
  subst e'
  exact PySem.P.truthy_str (∅) ⟨H,I.tok _,q⟩
 | byt y =>
  obtain ⟨t,rfl⟩:=rx
  obtain ⟨hy,e'⟩:y.size<=sizeLine/\k=((y.size:Int) != 0):=e
  subst e'
  exact PySem.W.truthy_bytes (∅) ⟨H,I.tok _,q⟩
 | ref p =>
  cases rx
  have e':(∃ xs,SqL X.K H p xs/\k=!xs.isEmpty)\/(∃ xs,SqT X.K H p xs/\k=!xs.isEmpty)\/∃ kvs,H p=some (.dK kvs)/\k=!kvs.isEmpty:=e
  rcases e' with ⟨xs,hx,e'⟩|⟨xs,hx,e'⟩|⟨kvs,hx,e'⟩
  ·subst e'
   obtain ⟨its,r,pl,hz⟩:=I.list hx
   have hlen:=r.length
   exact wpAny_truthy_list pl.isList (by simp only [zqaj];omega) ⟨H,I.tok _,by rw [isEmpty_of r];exact q⟩
  ·subst e'
   obtain ⟨its,r,pl,hz⟩:=I.tuple hx
   have hlen:=r.length
   exact truthy_tuple pl (by simp only [zqaj];omega) ⟨H,I.tok _,by rw [isEmpty_of r];exact q⟩
  ·subst e'
   obtain ⟨hz,hS,vs,r,m⟩:kvs.length<=sizeLine/\(p == sysModules)=false/\∃ vs,KV kvs vs/\s.heap.DictOf (mixKind X.prog X.w) p vs:=I.hok p _ hx
   have hlen:kvs.length=vs.length:=Paired.length r
   exact wpAny_truthy_dict hS m (∅) ⟨H,I.tok _,by rw [isEmpty_kv r];exact q⟩
 | _=>exact (show False from e).elim
theorem pt_truth (ha:PE X a ta) (he:∀ whole,isTrue a X.env whole=(do let v <- whole;standAt a.pos;holding [v] (truthy v))):PT X a (fun σ H Q=>ta σ H fun x H'=>∃ k,TruV X.K x H' k/\Q k H'):=by
 intro pins s σ H Q I h
 exact isTrue_plain (thn (ha pins s σ H _ I h) fun v s1 ⟨x,H1,I1,r1,q1⟩=>tru_ok pins s1 σ H1 x v Q I1 r1 q1) (he _)
theorem vals1 {x:V} {us:List Value} (r:Vals [x] us):∃ u,us=[u]/\RelV x u:=by
 cases r with
 | cons r1 r2=>cases r2;exact ⟨_,rfl,r1⟩
theorem vals2 {x y:V} {us:List Value} (r:Vals [x,y] us):∃ u w',us=[u,w']/\RelV x u/\RelV y w':=by
 cases r with
 | cons r1 r2 =>
  cases r2 with
  | cons r3 r4=>cases r4;exact ⟨_,_,rfl,r1,r3⟩
theorem call_max2 (hc:X.calm=true):CallR X (.builtin "max") (fun xs H Q=>∃ i j,xs=[.int i,.int j]/\Q (.int (if j > i then j else i)) H):=by
 intro pins s σ H xs us Q I r h
 obtain ⟨i,j,rfl,q⟩:=h
 obtain ⟨u,w',rfl,⟨t,rfl⟩,⟨t',rfl⟩⟩:=vals2 r
 refine max_two_ints (I.ok.hd hc) fun h' tk k=>⟨_,H,I.kept k,?_,q⟩
 by_cases hj:j > i
 ·rw [zqav hj,zqav hj];exact ⟨_,rfl⟩
 ·rw [zqax hj,zqax hj];exact ⟨_,rfl⟩
theorem call_int1:CallR X (.type "int") (fun xs H Q=>(∃ i,xs=[.int i]/\Q (.int i) H)\/∃ k,xs=[.bl k]/\Q (.int (if k then 1 else 0)) H):=by
 intro pins s σ H xs us Q I r h
 rcases h with ⟨i,rfl,q⟩|⟨k,rfl,q⟩
 ·obtain ⟨u,rfl,t,rfl⟩:=vals1 r
  exact call_int_int ⟨.int i,H,I,⟨_,rfl⟩,q⟩
 ·obtain ⟨u,rfl,r1⟩:=vals1 r
  cases r1
  exact call_int_bool ⟨.int (if k then 1 else 0),H,I.tok _,⟨_,rfl⟩,q⟩
end
structure ObjM (h:Heap) (x dx C:Addr) (mA:Str->Option Value):Prop where
 obj:h.get? x=some (PySem.W.instObj C dx)
 ns:h.Ns1 dx mA
 ne:dx≠x
theorem lookIn_ns {h:Heap} {dx:Addr} {mA:Str->Option Value} (n:h.Ns1 dx mA):∃ od,h.get? dx=some od/\∀ name,PySem.W.lookIn name od=some (mA name):=by
 obtain ⟨o,es,ep,ho,hd,hk,_,hm⟩:=n
 refine ⟨o,ho,fun name=>?_⟩
 have e:=hm name
 unfold nsFind findBy at e
 rw [<- Array.find?_toList] at e
 unfold PySem.W.lookIn
 rw [hd]
 dsimp only
 split
 ·rename_i y q
  rw [q] at e
  exact zqb6 some e
 ·rename_i q
  rw [q] at e
  have a:es.toList.any (·.refKey)=false:=by
   rw [zqc7]
   intro y hy
   obtain ⟨z,t,hkey⟩:=hk y (Array.mem_toList_iff.mp hy)
   simp [DictEntry.refKey,hkey]
  have a':¬ es.toList.any (·.refKey)=true:=by rw [a];exact zqaa
  rw [zqax a']
  exact zqb6 some e
theorem ObjM.look {h:Heap} {x dx C:Addr} {mA:Str->Option Value} (I:ObjM h x dx C mA):∃ od,PySem.W.InstAt h x (PySem.W.instObj C dx) C (some od)/\∀ name,PySem.W.lookIn name od=some (mA name) :=
 let ⟨od,ho,hl⟩:=lookIn_ns I.ns
 ⟨od,⟨I.obj,rfl,rfl,ho⟩,hl⟩
theorem RelO.some_of {v:V} {o:Option Value} (r:RelO (some v) o):∃ u,o=some u/\RelV v u:=by
 cases o with
 | none=>exact (show False from r).elim
 | some u=>exact ⟨u,rfl,r⟩
theorem RelO.none_of {o:Option Value} (r:RelO none o):o=none:=by
 cases o with
 | none=>rfl
 | some u=>exact (show False from r).elim
section
variable {P:Program} {w:World} {H H':Hp} {h h':Heap} {a C dx:Addr} {fs fs':List (Str×V)}
theorem ins_get (hok:HOk P w H h) (e:H a=some (.ins C dx fs)):∃ mA,ObjM h a dx C mA/\(∀ f,RelO (fs.lookup f) (mA f))/\PySem.Within mA (fs.map (·.1))/\fs.length<=1000/\H dx=some (.own a):=by
 obtain ⟨d,z,ne,ob,mA,n,r,q⟩:=(show ObjOk P w H h a (.ins C dx fs) from hok a _ e)
 exact ⟨mA,⟨ob,n,ne⟩,r,q,z,d⟩
end
structure Cls (K:PySem.W.Frag) (C:Addr):Prop where
 pg:PySem.W.plainGet K C Str.empty=true
 hd:PySem.W.hasDictIn K C=true
 po:PySem.W.plainOver K C=true
 sa:PySem.W.findIn K (.ref C) "__setattr__" = some (some (.builtin "object.__setattr__"))
theorem Cls.get {K:PySem.W.Frag} {C:Addr} (c:Cls K C) (f:Str):PySem.W.plainGet K C f=true:=c.pg
section
variable {X:Cx} {pins:List (Addr×Obj)} {σ:St} {H:Hp} {s:Shared} {a C dx:Addr} {fs:List (Str×V)} {f:Str} {v:V} {A:Around} {E:Value->Shared->Prop}
theorem attr_of {prog:Program} {w:World} {env:Env} {e:Expr} {f:Str} {pos:Pos} {s:Shared} {Q:Value->Shared->Prop} (hb:attributeBase e f env (eval e env)=eval e env) (h:wpAny (model prog w) A (eval e env) (fun o s₁=>wpAny (model prog w) A (getAttr o f true) Q E s₁) E s):wpAny (model prog w) A (eval (.Attribute e f pos) env) Q E s :=
 Attribute_any_ h (by rw [arm_eval_Attribute,hb])
end
section
variable {X:Cx} {o e value:Expr} {f:Str} {pos pos' tpos:Pos} {ta tv:TE}
noncomputable def rSub:V->V->Hp->VK->Prop:=fun x y H Q=>∃ i j,x=.int i/\y=.int j/\Q (.int (i - j)) H
end
section
variable {X:Cx} {pins:List (Addr×Obj)} {σ:St} {H:Hp} {s:Shared} {A:Around} {E:Value->Shared->Prop} {Q:Value->Shared->Prop} {c:Value} {b:Bool}
inductive TyOf (K:PySem.W.Frag) (H:Hp):V->Value->Prop where
  | non:TyOf K H .non (.type "NoneType")
  | bl (x:Bool):TyOf K H (.bl x) (.type "bool")
  | int (i:Int):TyOf K H (.int i) (.type "int")
  | str (x:Str):TyOf K H (.str x) (.type "str")
  | flt (x:UInt64):TyOf K H (.flt x) (.type "float")
  | lst {a:Addr} {xs:List V} (e:H a=some (.lst xs)):TyOf K H (.ref a) (.type "list")
  | frz {a:Addr} {o:Obj} {xs:List V} (e:H a=some (.frz o (.lst xs))):TyOf K H (.ref a) (.type "list")
  | tup {a:Addr} {xs:List V} (e:H a=some (.tup xs)):TyOf K H (.ref a) (.type "tuple")
  | dK {a:Addr} {kvs:List (Key×V)} (e:H a=some (.dK kvs)):TyOf K H (.ref a) (.type "dict")
  | dT {a:Addr} {kvs:List (List Key×V)} (e:H a=some (.dT kvs)):TyOf K H (.ref a) (.type "dict")
  | ins {a C dx : Addr} {fs : List (Str × V)} (e : H a = some (.ins C dx fs)) (cl : Cls K C) (ha : PySem.W.findIn K (.ref C) "__class__" = some (some (.builtin "object.__class__")))
      (hn:PySem.W.specialIn K (.builtin "object.__class__") "__get__" = some (some (.builtin "getset_descriptor.__get__"))) (htk:PySem.W.takesIn K (.builtin "object.__class__")=some true)
      (hm:PySem.W.mroIn K C (.type "object")=some true):TyOf K H (.ref a) (.ref C)
theorem isinst_ok {x:V} {u t:Value} (I:Inv X pins σ H s) (rx:RelV x u) (ty:TyOf X.K H x t) (e:PySem.W.kitOne X.K t c=some b) (h:∀ tk,Q (.bool b) { s with toks:=tk }):wpAny (model X.prog X.w) A (call (.builtin "isinstance") [u,c]) Q E s:=by
 cases ty with
 | non=>cases (show u=Value.none from rx);exact zqa9 PySem.W.kitx_none I.kIn True.intro e (fun z=>nomatch z) h
 | bl y=>cases (show u=Value.bool y from rx);exact zqa9 PySem.W.kitx_bool I.kIn True.intro e (fun z=>nomatch z) h
 | int i=>obtain ⟨t,q⟩:=(show ∃ t,u=Value.int i t from rx);cases q;exact zqa9 PySem.W.kitx_int I.kIn True.intro e (fun z=>nomatch z) h
 | str y=>obtain ⟨t,q⟩:=(show ∃ t,u=Value.str y t from rx);cases q;exact zqa9 PySem.W.kitx_str I.kIn True.intro e (fun z=>nomatch z) h
 | flt y=>obtain ⟨t,q⟩:=(show ∃ t,u=Value.float y t from rx);cases q;exact zqa9 PySem.W.kitx_float I.kIn True.intro e (fun z=>nomatch z) h
 | @lst a xs ea =>
  cases (show u=Value.ref a from rx)
  obtain ⟨_,_,n,_,h1⟩:=(show ObjOk X.prog X.w H s.heap a (.lst xs) from I.hok a _ ea)
  exact zqa9 PySem.W.kitx_list I.kIn ⟨_,h1,rfl⟩ e (fun z=>nomatch z) h
 | @frz a ob xs ea =>
  cases (show u=Value.ref a from rx)
  obtain ⟨_,_,_,n,_,h1⟩:=(show ObjOk X.prog X.w H s.heap a (.frz ob (.lst xs)) from I.hok a _ ea)
  exact zqa9 PySem.W.kitx_list I.kIn ⟨_,h1,rfl⟩ e (fun z=>nomatch z) h
 | @tup a xs ea =>
  cases (show u=Value.ref a from rx)
  obtain ⟨_,_,_,p⟩:=(show ObjOk X.prog X.w H s.heap a (.tup xs) from I.hok a _ ea)
  obtain ⟨o,h1,h2,_⟩:=p
  exact zqa9 PySem.W.kitx_tuple I.kIn ⟨o,h1,h2⟩ e (fun z=>nomatch z) h
 | @dK a kvs ea =>
  cases (show u=Value.ref a from rx)
  obtain ⟨_,_,vs,_,p⟩:=(show ObjOk X.prog X.w H s.heap a (.dK kvs) from I.hok a _ ea)
  obtain ⟨o,es,ep,h1,h2,_⟩:=p
  exact zqa9 PySem.W.kitx_dict I.kIn ⟨o,h1,h2.1⟩ e (fun z=>nomatch z) h
 | @dT a kvs ea =>
  cases (show u=Value.ref a from rx)
  obtain ⟨_,_,xs,_,o,es,ep,h1,h2,_⟩:=(show ObjOk X.prog X.w H s.heap a (.dT kvs) from I.hok a _ ea)
  exact zqa9 PySem.W.kitx_dict I.kIn ⟨o,h1,h2.1⟩ e (fun z=>nomatch z) h
 | @ins a C dx fs ea cl ha hn htk hm =>
  cases (show u=Value.ref a from rx)
  obtain ⟨mA,O,_⟩:=ins_get I.hok ea
  obtain ⟨od,J,_⟩:=O.look
  exact zqa9 (PySem.W.kitx_own (cl.get _) cl.hd ha hn htk hm) I.kIn J e (fun z=>nomatch z) h
end
structure Room (k:Nat) (A:Around):Prop where
 hd:A.handled=none
 dp:A.depth+3 * k+5 < recursionLimit
 un:A.units+16 * k+200 < cLine
 gd:A.guards=some []
theorem Room.mono {j k:Nat} {A:Around} (r:Room k A) (h:j<=k):Room j A:=⟨r.hd,by have:=r.dp;omega,by have:=r.un;omega,r.gd⟩
theorem Room.deeper {k:Nat} {A:Around} (r:Room (k+1) A) (env:Env):Room k (A.deeper env) :=
 ⟨r.hd,by have:=r.dp;show A.depth+1+3 * k+5 < _;omega,by have:=r.un;show A.units+3+16 * k+200 < _;omega,r.gd⟩
theorem make_depth {A:Around} {C:Addr} {us:List Value} {kw:List (Str×Value)}:(A.under (.builtin "type.__call__" ⟨.ref C::us,kw⟩)).depth=A.depth+1:=by
 first | rfl | simp [Around.under,Code.weight,Code.isCreation,Code.isGuard,Code.isCaller,Code.frames,Code.isFrame,guardIds]
theorem make_units {A:Around} {C:Addr} {us:List Value} {kw:List (Str×Value)}:(A.under (.builtin "type.__call__" ⟨.ref C::us,kw⟩)).units=A.units+1:=by
 first | rfl | simp [Around.under,Code.cUnits,Code.frames,Code.isFrame]
theorem Room.make {k:Nat} {A:Around} (r:Room (k+1) A) (C:Addr) (us:List Value) (kw:List (Str×Value)):Room k (A.under (.builtin "type.__call__" ⟨.ref C::us,kw⟩)) :=
 ⟨r.hd,by have:=r.dp;rw [make_depth];omega,by have:=r.un;rw [make_units];omega,by first | exact r.gd | (simpa [Around.under,Code.guards,Code.isGuard,guardIds,pushGuards] using r.gd)⟩
theorem Room.depth {k:Nat} {A:Around} (r:Room k A):A.depth < recursionLimit:=by have:=r.dp;omega
def tNil:TA:=fun _ H Q=>Q [] H
noncomputable def tCons (ta:TE) (tr:TA):TA:=fun σ H Q=>ta σ H fun x H1=>tr σ H1 fun xs H2=>Q (x::xs) H2
section
variable {X:Cx} {e:Expr} {es:List Expr} {te:TE} {t:TA} {pos:Pos}
theorem pa_nil:PA X [] tNil:=fun _ _ _ _ H Q I h=>Calls.spliced_nil ⟨[],H,I,.nil,h⟩
theorem pa_cons (ha:PE X e te) (hr:PA X es t) (hs:starEach (e::es) X.env=(false,eval e X.env)::starEach es X.env:=by rfl):PA X (e::es) (tCons te t):=by
 intro pos pins s σ H Q I h
 rw [hs]
 show wpAny _ _ (spliced ((false,eval e X.env)::backTo pos (starEach es X.env))) _ _ s
 refine Calls.spliced_cons (thn (ha pins s σ H _ I h) ?_)
 rintro u s1 ⟨x,H1,I1,r1,q1⟩
 exact thn (hr pos pins s1 σ H1 _ I1 q1) fun us s2 ⟨xs,H2,I2,r2,q2⟩=>⟨x::xs,H2,I2,.cons r1 r2,q2⟩
def tTup (t:TA):TE:=fun σ H Q=>t σ H fun xs H1=>xs.length<=sizeLine/\∀ p,H1 p=none->Q (.ref p) (upd H1 p (.tup xs))
def tLst (t:TA):TE:=fun σ H Q=>t σ H fun xs H1=>xs.length<=sizeLine/\∀ p,H1 p=none->Q (.ref p) (upd H1 p (.lst xs))
theorem pe_tup {x1} (h:PA X es t):PE X (.Tuple es x1 pos) (tTup t):=by
 intro pins s σ H Q I hq
 refine wpAny_Tuple_spliced (thn (h pos pins s σ H _ I hq) fun us s1 ⟨xs,H1,I1,r,z,q⟩=>⟨by rw [<- r.length];exact z,?_⟩)
 have hf:H1 s1.heap.objs.size=none:=I1.hok.fresh (zqae _)
 refine ⟨.ref s1.heap.objs.size,upd H1 s1.heap.objs.size (.tup xs),I1.laid (t':=s1.toks) (fun b u e=>zqah _ e) (zqae _) ?_,rfl,q _ hf⟩
 exact ⟨z,us,r,⟨_,zqa7 _ rfl,rfl,_,rfl⟩⟩
theorem pe_lst (h:PA X es t):PE X (.List es pos) (tLst t):=by
 intro pins s σ H Q I hq
 refine wpAny_List_spliced (thn (h pos pins s σ H _ I hq) fun us s1 ⟨xs,H1,I1,r,z,q⟩=>⟨by rw [<- r.length];exact z,?_⟩)
 have hf:H1 s1.heap.objs.size=none:=I1.hok.fresh (zqae _)
 refine ⟨.ref s1.heap.objs.size,upd H1 s1.heap.objs.size (.lst xs),I1.laid (t':=s1.toks) (fun b u e=>zqah _ e) (zqae _) ?_,rfl,q _ hf⟩
 exact ⟨z,us,0,r,zqa7 _ rfl⟩
end
abbrev Sp:=List V->Hp->VK->XK->Prop
abbrev CXT:=List Env->Hp->Shared->XK->Value->Shared->Prop
structure Env0 (P:Program) (w:World) (K:PySem.W.Frag) (mg:Str->Option Value) (base:Heap) (A:Around) (outer:List Env) (s:Shared) (H:Hp):Prop where
 frames:A.frames=some outer
 mod:Mod K mg base
 bs:∀ b o,base.get? b=some o->s.heap.get? b=some o/\H b=none
 bsz:base.objs.size<=s.heap.objs.size
 funs:s.heap.FunFrames base outer
 frf:∀ b∈frs outer,H b=none
 hok:HOk P w H s.heap
 bare:AllBare s.gens
def CE (outer:List Env) (P:Program) (w:World) (H:Hp) (s:Shared) (Q:VK) (u:Value) (s':Shared):Prop :=
 ∃ v H',s'.os=s.os/\AllBare s'.gens/\Un (frs outer) [] H H' s.heap s'.heap/\HOk P w H' s'.heap/\RelV v u/\Q v H'
def CR (CX:CXT) (outer:List Env) (P:Program) (w:World) (H:Hp) (s:Shared) (Q:VK) (E:XK) (r:Result) (s':Shared):Prop :=
 match r with
 | .ok (.ret u)=>CE outer P w H s Q u s'
 | .ok _=>False
 | .error e=>CX outer H s E e s'
structure FnOk (P:Program) (w:World) (K:PySem.W.Frag) (mg:Str->Option Value) (base:Heap) (CX:CXT) (k:Nat) (f:Addr) (fd:FuncData) (ps:List Str) (sp:Sp):Prop where
 len:∀ vs H Q E,sp vs H Q E->vs.length=ps.length
 run:∀ (A:Around) (outer:List Env) (s:Shared) (H:Hp) (args:Args) (us:List Value) (vs:List V) (Q:VK) (E:XK),Room k A->Env0 P w K mg base A outer s H->BindsTo s fd args (ps.zip us)->Vals vs us->sp vs H Q E ->
  codeAny (model P w) A (.call (.ref f) args) (CR CX outer P w H s Q E) s
theorem FnOk.mono {P:Program} {w:World} {K:PySem.W.Frag} {mg:Str->Option Value} {base:Heap} {CX:CXT} {j k:Nat} {f:Addr} {fd:FuncData} {ps:List Str} {sp:Sp} (F:FnOk P w K mg base CX j f fd ps sp) (h:j<=k):FnOk P w K mg base CX k f fd ps sp:=⟨F.len,fun A outer s H args us vs Q E hr=>F.run A outer s H args us vs Q E (hr.mono h)⟩
theorem Env0.make {P:Program} {w:World} {K:PySem.W.Frag} {mg:Str->Option Value} {base:Heap} {A:Around} {outer:List Env} {s:Shared} {H:Hp} (e:Env0 P w K mg base A outer s H) (C:Addr) (us:List Value) (kw:List (Str×Value)):Env0 P w K mg base (A.under (.builtin "type.__call__" ⟨.ref C::us,kw⟩)) outer s H:=⟨by first | exact e.frames | (simpa [Around.under,Code.envs,Code.isFrame,pushEnvs] using e.frames),e.mod,e.bs,e.bsz,e.funs,e.frf,e.hok,e.bare⟩
section
variable {X:Cx} {pins:List (Addr×Obj)} {σ:St} {H:Hp} {s s':Shared}
theorem Inv.env0 (I:Inv X pins σ H s):Env0 X.prog X.w X.K X.mg X.base X.A X.stack s H :=
 ⟨I.ok.frames,I.ok.mod,I.bs,zqat I.ok.bsz I.sz,I.stack,I.stkFree,I.hok,I.bare⟩
theorem Inv.after {Q:VK} {u:Value} (I:Inv X pins σ H s) (h:CE X.stack X.prog X.w H s Q u s'):EP X pins σ Q u s':=by
 obtain ⟨v,H',os,bare,un,hok,r,q⟩:=h
 obtain ⟨hh,g,d,t,os'⟩:=s'
 obtain rfl:os'=s.os:=os
 exact ⟨v,H',I.call (h':=hh) (g':=g) (d':=d) (t':=t) (ch:=[]) un hok bare (fun b z=>absurd z (by simp)),r,q⟩
end
noncomputable def tCall (sp:Sp) (dvs:List V) (E:XK) (t:TA):TE:=fun σ H Q=>t σ H fun vs H1=>sp (vs++dvs) H1 Q E
noncomputable def Binds (K:PySem.W.Frag) (fd:FuncData) (ps:List Str) (ds:List Value):Prop :=
 ∀ (s:Shared) (us:List Value),K.In s.heap->(us++ds).length=ps.length->BindsTo s fd ⟨us,[]⟩ (ps.zip (us++ds))
theorem Binds.all {K:PySem.W.Frag} {fd:FuncData} {ps:List Str} (h:∀ us:List Value,us.length=ps.length->bindArgs fd ⟨us,[]⟩=pure (ps.zip us)):Binds K fd ps []:=fun s us _ hl=>by
 rw [zqbs] at hl ⊢
 exact .of_eq (h us hl)
noncomputable def Passes (CX:CXT) (X:Cx) (E:XK):Prop:=∀ (pins:List (Addr×Obj)) (σ:St) (H:Hp) (s:Shared) (e:Value) (s':Shared),Inv X pins σ H s->CX X.stack H s E e s'->X.xe e s'
section
variable {X:Cx} {CX:CXT} {k:Nat} {f C:Addr} {fd:FuncData} {ps:List Str} {sp:Sp} {dvs:List V} {ds:List Value} {E:XK} {x m:Str} {p pos apos:Pos} {e o:Expr} {es:List Expr} {ta:TE} {t:TA}
theorem run_fn {pins:List (Addr×Obj)} {σ:St} {H:Hp} {s:Shared} {Q:VK} {us:List Value} {vs:List V} (F:FnOk X.prog X.w X.K X.mg X.base CX k f fd ps sp) (hr:Room k X.A) (hb:Binds X.K fd ps ds) (hd:Vals dvs ds) (hx:Passes CX X E) (I:Inv X pins σ H s) (r:Vals vs us) (h:sp (vs++dvs) H Q E):wpAny (model X.prog X.w) X.A (call (.ref f) us) (EP X pins σ Q) X.xe s:=by
 have r2:Vals (vs++dvs) (us++ds):=r.append hd
 have hl:(us++ds).length=ps.length:=by rw [<- r2.length];exact F.len _ _ _ _ h
 refine wpAny_call (zqca (F.run X.A X.stack s H ⟨us,[]⟩ (us++ds) (vs++dvs) Q E hr I.env0 (hb s us I.kIn hl) r2 h) fun r s' hq=>?_)
 cases r with
 | error e=>exact hx pins σ H s e s' I hq
 | ok fl =>
  cases fl with
  | ret u=>exact I.after hq
  | next=>exact False.elim hq
  | brk=>exact False.elim hq
  | cont=>exact False.elim hq
theorem pe_call (F:FnOk X.prog X.w X.K X.mg X.base CX k f fd ps sp) (hr:Room k X.A) (hg:Gl X x) (hm:X.mg x=some (.ref f)) (hk:PySem.W.keepIn X.K (.ref f)=true) (hb:Binds X.K fd ps ds) (hd:Vals dvs ds) (hx:Passes CX X E) (ha:PA X (e::es) t) (hdb:(x == ("__debug__" : Str))=false:=by decide) (he:starEach (e::es) X.env=(false,eval e X.env)::starEach es X.env:=by rfl) (hpl:(backTo pos (starEach es X.env)).any (·.1)=false:=by rfl):PE X (.Call (.Name x p) (e::es) [] pos) (tCall sp dvs E t):=by
 intro pins s σ H Q I h
 refine zqb3 (ld_glob I hg hm ?_ hdb)
 refine zqc5 (h₀:=X.base) I.ok.mod.kin hk (thn (ha pos pins s σ H _ I h) fun us s1 ⟨vs,H1,I1,r,q⟩=>⟨I1.kIn,?_⟩) he hpl
 exact run_fn F hr hb hd hx I1 r q
end
structure FnScope (N P:List Str) (sc:Scope):Prop where
 kind:sc.kind=.function
 co:sc.isCoroutine=false
 gen:sc.isGenerator=false
 nd:N.Nodup
 pre:N.take P.length=P
 par:∀ x∈P,sc.names.lookup x=some .local\/sc.names.lookup x=some .cell
 nofree:∀ y∈sc.names,y.2≠.free
theorem bindL_out {kindOf:Str->Option NameKind} {x:Str}:∀ {binds:List (Str×Value)} {m:Str->Option Value},(∀ v,(x,v)∉binds)->bindL kindOf binds m x=m x
 | [],_,_=>rfl
 | (n,v)::r,m,h=>by
  unfold bindL
  rw [bindL_out fun w hw=>h w (zqai _ hw)]
  split
  ·have:x≠n:=by rintro rfl;exact h v zqar
   simp [this]
  ·rfl
theorem bindC_out {kindOf:Str->Option NameKind} {x:Str}:∀ {binds:List (Str×Value)} {m:Str->Option Value},(∀ v,(x,v)∉binds)->bindC kindOf binds m x=m x
 | [],_,_=>rfl
 | (n,v)::r,m,h=>by
  unfold bindC
  rw [bindC_out fun w hw=>h w (zqai _ hw)]
  split
  ·rfl
  ·have:x≠n:=by rintro rfl;exact h v zqar
   simp [this]
theorem bindL_get {kindOf:Str->Option NameKind} {x:Str} {v:Value}:∀ {P:List Str} {vs:List Value} {i:Nat} {m:Str->Option Value},P.Nodup->P[i]?=some x->vs[i]?=some v->kindOf x=some .local->bindL kindOf (P.zip vs) m x=some v
 | [],_,_,_,_,h,_,_=>by simp at h
 | _::_,[],_,_,_,_,h,_=>by simp at h
 | p::P,w::vs,0,m,nd,h1,h2,hk=>by
  simp at h1 h2;subst h1;subst h2
  show bindL kindOf ((p,w)::P.zip vs) m p=_
  unfold bindL
  rw [bindL_out fun v hv=>(zqb4.mp nd).1 (zqcy hv).1,zqav hk]
  simp
 | p::P,w::vs,i+1,m,nd,h1,h2,hk=>by
  show bindL kindOf ((p,w)::P.zip vs) m x=_
  unfold bindL
  exact bindL_get (i:=i) (zqb4.mp nd).2 (by simpa using h1) (by simpa using h2) hk
theorem bindC_get {kindOf:Str->Option NameKind} {x:Str} {v:Value}:∀ {P:List Str} {vs:List Value} {i:Nat} {m:Str->Option Value},P.Nodup->P[i]?=some x->vs[i]?=some v->kindOf x≠some .local->bindC kindOf (P.zip vs) m x=some v
 | [],_,_,_,_,h,_,_=>by simp at h
 | _::_,[],_,_,_,_,h,_=>by simp at h
 | p::P,w::vs,0,m,nd,h1,h2,hk=>by
  simp at h1 h2;subst h1;subst h2
  show bindC kindOf ((p,w)::P.zip vs) m p=_
  unfold bindC
  rw [bindC_out fun v hv=>(zqb4.mp nd).1 (zqcy hv).1,zqax hk]
  simp
 | p::P,w::vs,i+1,m,nd,h1,h2,hk=>by
  show bindC kindOf ((p,w)::P.zip vs) m x=_
  unfold bindC
  exact bindC_get (i:=i) (zqb4.mp nd).2 (by simpa using h1) (by simpa using h2) hk
noncomputable def start (N:List Str) (vs:List V):St:=vs.map some++List.replicate (N.length - vs.length) none
noncomputable def cxOf (CX:CXT) (P:Program) (w:World) (K:PySem.W.Frag) (mg:Str->Option Value) (base:Heap) (N:List Str) (qual:Str) (scope:Scope) (f:Addr) (cd:Value) (A:Around) (outer:List Env) (s:Shared) (H:Hp) (E:XK):Cx where
 prog:=P
 w:=w
 K:=K
 mg:=mg
 base:=base
 A:=A.deeper (envOfC qual scope s.heap.objs.size f cd)
 N:=N
 s₀:=s
 H₀:=H
 env:=envOfC qual scope s.heap.objs.size f cd
 outer:=outer
 stack:=envOfC qual scope s.heap.objs.size f cd::outer
 ex:=[]
 calm:=true
 fn:=fun _=>true
 pn:=[]
 xe:=fun e s'=>wpAny (model P w) (A.deeper (envOfC qual scope s.heap.objs.size f cd)) (leaving (envOfC qual scope s.heap.objs.size f cd) e) (fun _ s''=>CX outer H s E e s'') (fun e' s''=>CX outer H s E e' s'') s'
theorem cell_has {sc:Scope} {n:Nat} {x:Str} (h:sc.names.lookup x=some .cell):∃ c,(cellsFrom n sc.names []).lookup x=some c:=by
 have q:=zqcn sc.names n [] (.inl h)
 exact zqbt.mp q
theorem inv_start {CX:CXT} {P:Program} {w:World} {K:PySem.W.Frag} {mg:Str->Option Value} {base:Heap} {N ps:List Str} {qual:Str} {scope:Scope} {f:Addr} {cd:Value} {A:Around} {outer:List Env} {s s1:Shared} {H:Hp} {E:XK} {us:List Value} {vs:List V} (S:FnScope N ps scope) (hd:A.handled=none) (e0:Env0 P w K mg base A outer s H) (hl:vs.length=ps.length) (r:Vals vs us) (x:InCallC s s.heap.objs.size (bindL (envOfC qual scope s.heap.objs.size f cd).kindOf (ps.zip us) fun _=>none) (cellsFrom (s.heap.objs.size+1) scope.names []) (bindC (envOfC qual scope s.heap.objs.size f cd).kindOf (ps.zip us) fun _=>none) s1):Inv (cxOf CX P w K mg base N qual scope f cd A outer s H E) [] (start N vs) H s1:=by
 have hpl:ps.length<=N.length:=by have:=zqb6 List.length S.pre;rw [zqct] at this;omega
 obtain ⟨h1,tk,rfl,hk⟩:=x.done
 have noA:∀ b:Addr,b∉(cxOf CX P w K mg base N qual scope f cd A outer s H E).ex:=fun b z=>absurd (show b∈([]:List Addr) from z) (by simp)
 refine ⟨⟨e0.mod,S.kind,rfl,rfl,zqae _,fun y z c h1 h2=>?_,fun y hy=>?_,fun y c _ h=>?_,fun _=>hd,Around.frames_deeper e0.frames,.inr ⟨rfl,rfl⟩,fun b z=>absurd z (noA b),e0.bs,e0.bsz,fun b _ _=>noA b,fun b z=>absurd z (noA b),e0.funs,e0.frf⟩,
  rfl,e0.bare,Un.kept hk,⟨_,x.toInCall.ns,fun i y v h1 h2 h3=>?_⟩,fun y c h=>⟨_,x.cell y c h⟩,e0.hok.fresh (zqae _),fun y c h=>?_,fun p hp=>absurd (show p∈([]:List (Addr×Obj)) from hp) (by simp),e0.hok.kept hk,?_⟩
 ·exact name_of_addr x.apart (zqam h1) (zqam h2)
 ·have hy:scope.names.lookup y=some .cell\/scope.names.lookup y=some .free:=hy
  rcases hy with hy | hy
  ·exact cell_has hy
  ·exact absurd rfl (S.nofree _ (zqam hy))
 ·exact zqbq (x.above y c (zqam h))
 ·have hi:i < vs.length:=by
   unfold start at h2
   by_cases hi:i < vs.length
   ·exact hi
   ·rw [zqaw (by simpa using hi)] at h2
    rw [zqcl] at h2
    split at h2 <;> cases h2
  have ha:vs[i]?=some v:=by
   unfold start at h2
   rw [zqal (by simpa using hi),zqbg] at h2
   cases e:vs[i]? with
   | none=>rw [e] at h2;cases h2
   | some a=>rw [e] at h2;cases h2;rfl
  obtain ⟨u,hu,rv⟩:=r.get ha
  have hp:ps[i]?=some y:=by
   rw [<- S.pre,List.getElem?_take_of_lt (∅)];exact h1
  have ndP:ps.Nodup:=by rw [<- S.pre];exact S.nd.sublist (List.take_sublist _ _)
  refine ⟨u,rv,?_⟩
  rcases S.par y (zqba hp) with k | k
  ·exact .inl ⟨k,bindL_get ndP hp hu k⟩
  ·obtain ⟨c,e⟩:=cell_has (n:=s.heap.objs.size+1) k
   refine .inr ⟨.inl k,c,e,?_⟩
   have q:=x.cell y c e
   rw [bindC_get ndP hp hu (by show scope.names.lookup y≠_;rw [k];decide)] at q
   exact q
 ·exact e0.hok.fresh (zqbq (x.above y c (zqam h)))
 ·unfold start
  show _=N.length
  rw [zqau,zqaz,zqbn]
  omega
theorem fn_of {CX : CXT} {P : Program} {w : World} {K : PySem.W.Frag} {mg : Str -> Option Value} {base : Heap} {k : Nat} {f : Addr} {name qual : Str} {params : Arguments} {body : List Stmt} {scope : Scope} {dV kV doc pm cdv ct oc : Value} {an od : Option Addr}
    {osl:Array (Option Value)} {N ps:List Str} {sp:Sp} (lk:K.lookup f=some ⟨oc,od,.func (PySem.W.fnOf name qual params body scope dV kV doc pm an cdv ct),osl⟩) (hcd:PySem.W.codeIn K cdv qual=true) (S:FnScope N ps scope)
    (len:∀ vs H Q E,sp vs H Q E->vs.length=ps.length)
    (hbody:∀ (A:Around) (outer:List Env) (s:Shared) (H:Hp) (vs:List V) (Q:VK) (E:XK),Room k (A.deeper (envOfC qual scope s.heap.objs.size f cdv))->sp vs H Q E ->
      ∃ t,PSs (cxOf CX P w K mg base N qual scope f cdv A outer s H E) body t/\t { nx:=fun _ H'=>Q .non H',rt:=Q } (start N vs) H) :
    FnOk P w K mg base CX (k+1) f (PySem.W.fnOf name qual params body scope dV kV doc pm an cdv ct) ps sp:=by
  refine ⟨len,fun A outer s H args us vs Q E hr e0 hb r hsp=>?_⟩
  have hl:=len _ _ _ _ hsp
  have KX:K.In s.heap:=e0.mod.kin.keeps fun b o e=>(e0.bs b o e).1
  have lim:s.heap.NoLimit:=e0.mod.nolimit.keeps fun b o e=>(e0.bs b o e).1
  have hkind:∀ y∈ps.zip us,scope.names.lookup y.1=some .local\/(scope.names.lookup y.1=some .cell/\((cellsFrom (s.heap.objs.size+1) scope.names []).lookup y.1).isSome=true):=fun ⟨n,v⟩ hy=>by
    rcases S.par n (zqcy hy).1 with q | q
    · exact .inl q
    · exact .inr ⟨q,zqcn _ _ _ (.inl q)⟩
  refine codeAny_call_function hr.depth (KX _ _ lk) rfl S.co S.gen rfl (PySem.W.codeRec_of KX hcd) (hb _ _ _ _ ?_)
  refine wpAny_newFunctionEnv_cells S.kind hkind fun env he s1 x=>?_
  subst he
  refine ⟨lim.keeps x.toInCall.keep,codeAny_func ?_⟩
  obtain ⟨t,ht,hq⟩:=hbody A outer s H vs Q E (hr.deeper _) hsp
  have I:Inv (cxOf CX P w K mg base N qual scope f cdv A outer s H E) [] (start N vs) H s1:=inv_start S hr.hd e0 hl r x
  refine zqbl (ht [] s1 (start N vs) H _ I hq) (fun fl s' hs=>?_) fun e s' hs=>hs
  have fin:∀ {σ':St} {H':Hp} {v:V} {u:Value},Inv (cxOf CX P w K mg base N qual scope f cdv A outer s H E) [] σ' H' s'->RelV v u->Q v H'->CE outer P w H s Q u s' :=
    fun {σ' H' v u} J rv q=>⟨v,H',J.os,J.bare,J.base,J.hok,rv,q⟩
  cases fl with
  | ret u =>
    obtain ⟨v,σ',H',J,rv,q⟩:=hs
    exact fin J rv q
  | next =>
    obtain ⟨σ',H',J,q⟩:=hs
    exact fin (v:=V.non) (u:=Value.none) J rfl q
  | brk =>
    obtain ⟨_,_,_,q⟩:=hs
    exact False.elim q
  | cont =>
    obtain ⟨_,_,_,q⟩:=hs
    exact False.elim q
section
variable {X:Cx} {x:Str} {p pos:Pos} {e:Expr} {es:List Expr} {t:TA} {id T:String} {r:List V->Hp->VK->Prop}
noncomputable def tCB (r:List V->Hp->VK->Prop) (t:TA):TE:=fun σ H Q=>t σ H fun vs H1=>r vs H1 Q
theorem pe_callB (hc:CallR X (.builtin id) r) (hg:Gl X x) (hm:X.mg x=none) (hv:bootBuiltins x=some (.builtin id)) (ha:PA X (e::es) t) (hn:x ≠ "__name__" := by decide) (hdb:(x == ("__debug__" : Str))=false:=by decide) (he:starEach (e::es) X.env=(false,eval e X.env)::starEach es X.env:=by rfl) (hpl:(backTo pos (starEach es X.env)).any (·.1)=false:=by rfl):PE X (.Call (.Name x p) (e::es) [] pos) (tCB r t):=by
 intro pins s σ H Q I h
 refine zqb3 (ld_blt I hg hm hv ?_ hn hdb)
 exact PyProof.Rows.callWith_builtin1 (thn (ha pos pins s σ H _ I h) fun us s1 ⟨vs,H1,I1,r1,q1⟩=>hc pins s1 σ H1 vs us Q I1 r1 q1) he hpl
theorem pe_callTy (hc:CallR X (.type T) r) (hg:Gl X x) (hm:X.mg x=none) (hv:bootBuiltins x=some (.type T)) (ha:PA X (e::es) t) (hn:x ≠ "__name__" := by decide) (hdb:(x == ("__debug__" : Str))=false:=by decide) (he:starEach (e::es) X.env=(false,eval e X.env)::starEach es X.env:=by rfl) (hpl:(backTo pos (starEach es X.env)).any (·.1)=false:=by rfl):PE X (.Call (.Name x p) (e::es) [] pos) (tCB r t):=by
 intro pins s σ H Q I h
 refine zqb3 (ld_blt I hg hm hv ?_ hn hdb)
 exact PyProof.Rows.callWith_type1 (thn (ha pos pins s σ H _ I h) fun us s1 ⟨vs,H1,I1,r1,q1⟩=>hc pins s1 σ H1 vs us Q I1 r1 q1) he hpl
end
section
variable {κ:Type} [DecidableEq κ]
noncomputable def valV (kvs:List (κ×V)) (k:κ):Option V:=(kvs.find? fun kv=>decide (kv.1=k)).map (·.2)
noncomputable def putK (kvs:List (κ×V)) (k:κ) (v:V):List (κ×V) :=
 if (kvs.any fun kv=>decide (kv.1=k))=true then kvs.map (fun kv=>if kv.1=k then (kv.1,v) else kv) else kvs++[(k,v)]
theorem valV_pos {p:κ×V} {r:List (κ×V)} {k:κ} (e:p.1=k):valV (p::r) k=some p.2:=by simp [valV,zqbh,e]
theorem valV_neg {p:κ×V} {r:List (κ×V)} {k:κ} (e:¬ p.1=k):valV (p::r) k=valV r k:=by simp [valV,zqbh,e]
theorem valV_any (k:κ):∀ kvs:List (κ×V),(kvs.any fun kv=>decide (kv.1=k))=(valV kvs k).isSome
 | []=>rfl
 | p::r=>by
  rw [zqcs]
  by_cases e:p.1=k
  ·simp only [valV_pos e,zqbo e,Bool.true_or,Option.isSome_some]
  ·rw [valV_neg e,zqay e,Bool.false_or];exact valV_any k r
theorem length_putK (kvs:List (κ×V)) (k:κ) (v:V):(putK kvs k v).length<=kvs.length+1:=by
 unfold putK
 split
 ·rw [zqaz];omega
 ·rw [zqau,zqa2,zqcz];omega
theorem RelO.isSome_eq {o:Option V} {u:Option Value} (r:RelO o u):o.isSome=u.isSome:=by
 cases o with
 | none=>cases u with
  | none=>rfl
  | some _=>exact (show False from r).elim
 | some _=>cases u with
  | none=>exact (show False from r).elim
  | some _=>rfl
theorem KV.val {kvs:List (κ×V)} {vs:List (κ×Value)} (r:KV kvs vs) (k:κ):RelO (valV kvs k) (valueAt vs k):=by
 unfold KV at r
 induction r with
 | nil=>exact True.intro
 | @cons p q ps qs h t ih =>
  obtain ⟨h1,h2⟩:=h
  by_cases e:p.1=k
  ·have e':q.1=k:=h1.symm.trans e
   have b:valueAt (q::qs) k=some q.2:=by simp [valueAt,zqbh,e']
   rw [valV_pos e,b];exact h2
  ·have e':¬ q.1=k:=fun z=>e (h1.trans z)
   have b:valueAt (q::qs) k=valueAt qs k:=by simp [valueAt,zqbh,e']
   rw [valV_neg e,b];exact ih
theorem KV.any {kvs:List (κ×V)} {vs:List (κ×Value)} (r:KV kvs vs) (k:κ):(kvs.any fun kv=>decide (kv.1=k))=vs.any fun kv=>decide (kv.1=k):=by
 unfold KV at r
 induction r with
 | nil=>rfl
 | cons h t ih=>rw [zqcs,zqcs,ih,h.1]
theorem KV.repl {kvs:List (κ×V)} {vs:List (κ×Value)} (r:KV kvs vs) (k:κ) {y:V} {u:Value} (ry:RelV y u):KV (kvs.map fun kv=>if kv.1=k then (kv.1,y) else kv) (vs.map fun kv=>if kv.1=k then (kv.1,u) else kv):=by
 unfold KV at r ⊢
 induction r with
 | nil=>exact .nil
 | @cons p q ps qs h t ih =>
  rw [zqbm,zqbm]
  refine .cons ?_ ih
  obtain ⟨h1,h2⟩:=h
  by_cases e:p.1=k
  ·rw [zqav e,zqav (h1.symm.trans e)];exact ⟨h1,ry⟩
  ·rw [zqax e,zqax (fun z=>e (h1.trans z))];exact ⟨h1,h2⟩
theorem KV.put {kvs:List (κ×V)} {vs:List (κ×Value)} (r:KV kvs vs) (k:κ) {y:V} {u:Value} (ry:RelV y u):KV (putK kvs k y) (stored vs k u):=by
 unfold putK stored
 rw [r.any k]
 by_cases e:(vs.any fun kv=>decide (kv.1=k))=true
 ·rw [zqav e,zqav e];exact r.repl k ry
 ·rw [zqax e,zqax e];exact Paired.snoc r ⟨rfl,ry⟩
theorem KV.length {kvs:List (κ×V)} {vs:List (κ×Value)} (r:KV kvs vs):kvs.length=vs.length:=Paired.length r
end
theorem kV_is {P:Program} {w:World} {k:Key} {u:Value} (r:RelV (kV k) u):(mixKind P w).is k u=true:=by
 cases k with
 | inl i=>obtain ⟨t,e⟩:=(show ∃ t,u=Value.int i t from r);subst e;exact mixKind_int P w i t
 | inr x=>obtain ⟨t,e⟩:=(show ∃ t,u=Value.str x t from r);subst e;exact mixKind_str P w x t
theorem items_are {P:Program} {w:World}:∀ {ks:List Key} {us:List Value},Vals (ks.map kV) us->ItemsAre (mixKind P w) ks us
 | [],_,r=>by rw [List.map_nil] at r;cases r;exact .nil
 | k::ks,_,r=>by
  rw [zqbm] at r
  cases r with
  | cons h t=>exact .cons (kV_is h) (items_are t)
abbrev KT (H:Hp):List (List Key×V)->List (List Key×Addr×Value)->Prop:=Paired fun p q=>p.1=q.1/\H q.2.1=some (.tup (p.1.map kV))/\RelV p.2 q.2.2
theorem KT.val {H:Hp} {kvs:List (List Key×V)} {xs:List (List Key×Addr×Value)} (r:KT H kvs xs) (k:List Key):RelO (valV kvs k) ((atKey xs k).map (·.2)):=by
 induction r with
 | nil=>exact True.intro
 | @cons p q ps qs h t ih =>
  obtain ⟨h1,_,h2⟩:=h
  by_cases e:p.1=k
  ·have e':q.1=k:=h1.symm.trans e
   have b:atKey (q::qs) k=some q.2:=by simp [atKey,zqbh,e']
   rw [valV_pos e,b];exact h2
  ·have e':¬ q.1=k:=fun z=>e (h1.trans z)
   have b:atKey (q::qs) k=atKey qs k:=by simp [atKey,zqbh,e']
   rw [valV_neg e,b];exact ih
theorem KT.repl {H:Hp} {kvs:List (List Key×V)} {xs:List (List Key×Addr×Value)} (r:KT H kvs xs) (k:List Key) {y:V} {u:Value} (ry:RelV y u):KT H (kvs.map fun kv=>if kv.1=k then (kv.1,y) else kv) (xs.map (putAt k u)):=by
 induction r with
 | nil=>exact .nil
 | @cons p q ps qs h t ih =>
  rw [zqbm,zqbm]
  refine .cons ?_ ih
  obtain ⟨h1,h2,h3⟩:=h
  unfold putAt
  by_cases e:p.1=k
  ·rw [zqav e,zqav (h1.symm.trans e)];exact ⟨h1,h2,ry⟩
  ·rw [zqax e,zqax (fun z=>e (h1.trans z))];exact ⟨h1,h2,h3⟩
theorem KT.put {H:Hp} {kvs:List (List Key×V)} {xs:List (List Key×Addr×Value)} (r:KT H kvs xs) (k:List Key) {b:Addr} {y:V} {u:Value} (hb:H b=some (.tup (k.map kV))) (ry:RelV y u):KT H (putK kvs k y) (storedH xs k b u):=by
 have e:(kvs.any fun kv=>decide (kv.1=k))=(atKey xs k).isSome:=by
  rw [valV_any,(r.val k).isSome_eq,zqc8]
 unfold putK storedH
 rw [e]
 by_cases q:(atKey xs k).isSome=true
 ·rw [zqav q,zqav q];exact r.repl k ry
 ·rw [zqax q,zqax q];exact Paired.snoc r ⟨rfl,hb,ry⟩
theorem KT.keeps {H H':Hp} {kvs:List (List Key×V)} {xs:List (List Key×Addr×Value)} (r:KT H kvs xs) (ht:∀ b ys,H b=some (.tup ys)->H' b=some (.tup ys)):KT H' kvs xs :=
 Paired.mapP r fun _ _ z=>⟨z.1,ht _ _ z.2.1,z.2.2⟩
section
variable {P:Program} {w:World} {H:Hp} {h:Heap} {a:Addr}
theorem rd_of {u:HO} (ok:HOk P w H h) (e:Rd H a u):ObjOk P w H h a u:=e.ok ok
theorem dk_rd {kvs:List (Key×V)} (ok:HOk P w H h) (e:Rd H a (.dK kvs)):kvs.length<=sizeLine/\(a == sysModules)=false/\∃ vs,KV kvs vs/\h.DictOf (mixKind P w) a vs :=
 show ObjOk P w H h a (.dK kvs) from rd_of ok e
theorem dk_of {kvs:List (Key×V)} (ok:HOk P w H h) (e:H a=some (.dK kvs)):kvs.length<=sizeLine/\(a == sysModules)=false/\∃ vs,KV kvs vs/\h.DictOf (mixKind P w) a vs:=dk_rd ok (.inl e)
theorem key_of {ks:List Key} (ok:HOk P w H h) (e:H a=some (.tup (ks.map kV))):(tupleKind (mixKind P w)).is h ks a:=by
 obtain ⟨_,its,r,o,h1,h2,n,h3⟩:=(show ObjOk P w H h a (.tup (ks.map kV)) from ok a _ e)
 exact ⟨o,its.toArray,n,h1,h2,h3,by simpa using items_are r⟩
theorem dt_rd {kvs:List (List Key×V)} (ok:HOk P w H h) (e:Rd H a (.dT kvs)):kvs.length<=sizeLine/\(a == sysModules)=false/\∃ xs,KT H kvs xs/\h.DictOfH (tupleKind (mixKind P w)) a xs:=by
 obtain ⟨z,y,xs,r,o,es,ep,h1,h2,h3,h4,h5⟩:=(show ObjOk P w H h a (.dT kvs) from rd_of ok e)
 refine ⟨z,y,xs,r,o,es,ep,h1,h2,h3,h4,fun x hx=>?_,h5⟩
 have all:∀ {l:List (List Key×V)} {m:List (List Key×Addr×Value)},KT H l m->∀ x∈m,(tupleKind (mixKind P w)).is h x.1 x.2.1:=by
  intro l m q
  induction q with
  | nil=>intro x hx;exact nomatch hx
  | @cons p q ps qs hq t ih =>
   intro x hx
   rcases zqaq.mp hx with e | hx
   ·subst e
    exact key_of ok (by rw [<- hq.1];exact hq.2.1)
   ·exact ih x hx
 exact all r x hx
theorem dt_of {kvs:List (List Key×V)} (ok:HOk P w H h) (e:H a=some (.dT kvs)):kvs.length<=sizeLine/\(a == sysModules)=false/\∃ xs,KT H kvs xs/\h.DictOfH (tupleKind (mixKind P w)) a xs:=dt_rd ok (.inl e)
end
def DGet (H:Hp) (a:Addr) (y:V) (r:Option V):Prop :=
 (∃ kvs k,Rd H a (.dK kvs)/\y=kV k/\r=valV kvs k)\/∃ kvs k b,Rd H a (.dT kvs)/\y=.ref b/\H b=some (.tup (k.map kV))/\r=valV kvs k
def DPut (H:Hp) (a:Addr) (y v:V) (H':Hp):Prop :=
 (∃ kvs k,H a=some (.dK kvs)/\y=kV k/\kvs.length < sizeLine/\H'=upd H a (.dK (putK kvs k v))) \/
 ∃ kvs k b,H a=some (.dT kvs)/\y=.ref b/\H b=some (.tup (k.map kV))/\kvs.length < sizeLine/\H'=upd H a (.dT (putK kvs k v))
theorem DGet.k {H:Hp} {a:Addr} {kvs:List (Key×V)} {k:Key} (e:H a=some (.dK kvs)):DGet H a (kV k) (valV kvs k):=.inl ⟨kvs,k,.inl e,rfl,rfl⟩
theorem DPut.k {H:Hp} {a:Addr} {kvs:List (Key×V)} {k:Key} {v:V} (e:H a=some (.dK kvs)) (hl:kvs.length < sizeLine):DPut H a (kV k) v (upd H a (.dK (putK kvs k v))):=.inl ⟨kvs,k,e,rfl,hl,rfl⟩
section
variable {X:Cx} {pins:List (Addr×Obj)} {σ:St} {H:Hp} {s:Shared} {a:Addr} {y v:V} {u r:Value} {o:Option V} {A:Around} {E:Value->Shared->Prop}
theorem Inv.big (I:Inv X pins σ H s):sysModules < s.heap.objs.size:=by
 have h:mainGlobals < s.heap.objs.size:=(I.mod.glob.keeps I.bk).lt
 exact Nat.lt_trans (by decide) h
theorem d_getItem {Q:Value->Shared->Prop} (hu:A.units+1 < cLine) (I:Inv X pins σ H s) (g:DGet H a y (some v)) (ry:RelV y u) (h:∀ w' s',Inv X pins σ H s'->RelV v w'->Q w' s'):wpAny (model X.prog X.w) A (getItem (.ref a) u) Q E s:=by
 rcases g with ⟨kvs,k,e,ey,l⟩|⟨kvs,k,b,e,ey,eb,l⟩
 ·subst ey
  obtain ⟨z,hd,vs,rel,dd⟩:=dk_rd I.hok e
  obtain ⟨w',hw,rw'⟩:=RelO.some_of (v:=v) (o:=valueAt vs k) (by rw [l];exact rel.val k)
  exact wpAny_getItem_of (kV_is ry) dd.mapOf hw (h w' _ (I.tok _) rw')
 ·subst ey
  cases (show u=Value.ref b from ry)
  obtain ⟨z,hd,xs,rel,dd⟩:=dt_rd I.hok e
  obtain ⟨w',hw,rw'⟩:=RelO.some_of (v:=v) (o:=(atKey xs k).map (·.2)) (by rw [l];exact rel.val k)
  obtain ⟨p,hp,hp2⟩:=Option.map_eq_some_iff.mp hw
  refine wpAny_getItem_heap (zqch hu) (key_of I.hok eb) dd hp ?_
  rw [hp2]
  exact h w' _ (I.tok _) rw'
theorem d_in {Q:Value->Shared->Prop} (hu:A.units+1 < cLine) (I:Inv X pins σ H s) (g:DGet H a y o) (ry:RelV y u) (h:∀ s',Inv X pins σ H s'->Q (.bool o.isSome) s'):wpAny (model X.prog X.w) A (compareOp .In u (.ref a)) Q E s:=by
 rcases g with ⟨kvs,k,e,ey,l⟩|⟨kvs,k,b,e,ey,eb,l⟩
 ·subst ey
  obtain ⟨z,hd,vs,rel,dd⟩:=dk_rd I.hok e
  refine wpAny_in_of (kV_is ry) hd dd.mapOf ?_
  rw [<- (rel.val k).isSome_eq,<- l]
  exact h _ (I.tok _)
 ·subst ey
  cases (show u=Value.ref b from ry)
  obtain ⟨z,hd,xs,rel,dd⟩:=dt_rd I.hok e
  refine wpAny_in_heap (zqch hu) (key_of I.hok eb) hd dd ?_
  have q:=(rel.val k).isSome_eq
  rw [zqc8] at q
  rw [<- q,<- l]
  exact h _ (I.tok _)
theorem d_notIn {Q:Value->Shared->Prop} (hu:A.units+1 < cLine) (I:Inv X pins σ H s) (g:DGet H a y o) (ry:RelV y u) (h:∀ s',Inv X pins σ H s'->Q (.bool (!o.isSome)) s'):wpAny (model X.prog X.w) A (compareOp .NotIn u (.ref a)) Q E s:=by
 rcases g with ⟨kvs,k,e,ey,l⟩|⟨kvs,k,b,e,ey,eb,l⟩
 ·subst ey
  obtain ⟨z,hd,vs,rel,dd⟩:=dk_rd I.hok e
  refine wpAny_notIn_of (kV_is ry) hd dd.mapOf ?_
  rw [<- (rel.val k).isSome_eq,<- l]
  exact h _ (I.tok _)
 ·subst ey
  cases (show u=Value.ref b from ry)
  obtain ⟨z,hd,xs,rel,dd⟩:=dt_rd I.hok e
  refine wpAny_notIn_heap (zqch hu) (key_of I.hok eb) hd dd ?_
  have q:=(rel.val k).isSome_eq
  rw [zqc8] at q
  rw [<- q,<- l]
  exact h _ (I.tok _)
theorem d_write {h':Heap} {t':Nat} {ob:HO} (I:Inv X pins σ H s) (mu:Mut (H a)) (hs:Heap.SameBut a s.heap h') (he:∃ q,h'.get? a=some q) (new:ObjOk X.prog X.w (upd H a ob) h' a ob):Inv X pins σ (upd H a ob) { s with heap:=h',toks:=t' } :=
 I.write (x:=a) (e:=a) mu (.inl rfl) (fun b q hb z=>(hs.2 b hb).trans z) he new
theorem dk_new {P:Program} {w:World} {H':Hp} {h':Heap} {kvs:List (Key×V)} {vs:List (Key×Value)} (z:kvs.length<=sizeLine) (hd:(a == sysModules)=false) (rel:KV kvs vs) (dd:h'.DictOf (mixKind P w) a vs):ObjOk P w H' h' a (.dK kvs):=⟨z,hd,vs,rel,dd⟩
theorem d_setItem {H':Hp} {Q:Unit->Shared->Prop} (hu:A.units+1 < cLine) (I:Inv X pins σ H s) (g:DPut H a y v H') (ry:RelV y u) (rv:RelV v r) (h:∀ s',Inv X pins σ H' s'->Q () s'):wpAny (model X.prog X.w) A (setItem (.ref a) u r) Q E s:=by
 rcases g with ⟨kvs,k,e,ey,l,eH⟩|⟨kvs,k,b,e,ey,eb,l,eH⟩
 ·subst ey eH
  obtain ⟨z,hd,vs,rel,dd⟩:=dk_of I.hok e
  have hz:vs.length<=sizeLine:=by rw [<- rel.length];exact z
  have hl:(putK kvs k v).length<=sizeLine:=by have:=length_putK kvs k v;omega
  refine wpAny_setItem_pairs (hsz:=hz) (kV_is ry) dd fun h' dd' hs=>h _ ?_
  have he:∃ q,h'.get? a=some q:=let ⟨q,_,_,hq,_⟩:=dd';⟨q,hq⟩
  exact d_write I (by rw [e];exact True.intro) hs he (dk_new hl hd (rel.put k rv) dd')
 ·subst ey eH
  cases (show u=Value.ref b from ry)
  obtain ⟨z,hd,xs,rel,dd⟩:=dt_of I.hok e
  have hz:xs.length<=sizeLine:=by rw [<- Paired.length rel];exact z
  have hl:(putK kvs k v).length<=sizeLine:=by have:=length_putK kvs k v;omega
  refine wpAny_setItem_heap (hsz:=hz) (zqch hu) (key_of I.hok eb) dd fun h' dd' hs=>h _ ?_
  obtain ⟨q,es,ep,hq,h2,h3,h4,_,h5⟩:=dd'
  refine d_write I (by rw [e];exact True.intro) hs ⟨q,hq⟩ ⟨hl,hd,_,(rel.put k eb rv).keeps fun c ys ec=>?_,q,es,ep,hq,h2,h3,h4,h5⟩
  rw [upd_ne (ne_of ec e (fun z=>nomatch z))]
  exact ec
end
theorem dict_typeIs {X:Cx} {pins:List (Addr×Obj)} {σ:St} {H:Hp} {s:Shared} {a:Addr} {y:V} {o:Option V} (I:Inv X pins σ H s) (g:DGet H a y o):s.TypeIs (.ref a) "dict" := by
 rcases g with ⟨kvs,k,e,_,_⟩|⟨kvs,k,b,e,_,_,_⟩
 ·obtain ⟨_,_,vs,_,dd⟩:=dk_rd I.hok e
  exact dd.typeIs
 ·obtain ⟨_,_,xs,_,dd⟩:=dt_rd I.hok e
  exact dd.typeIs
theorem dk_empty {P:Program} {w:World} {H:Hp} (h:Heap) (hb:sysModules < h.objs.size):ObjOk P w H (h.push { cls:=.type "dict",data:=.dict #[] }) h.objs.size (.dK []) :=
 ⟨Nat.zero_le _,zqb2.mpr (zqbd (zqa4 hb)),[],.nil,Heap.DictOf.new h⟩
def tDNewK:TE:=fun _ H Q=>∀ p,H p=none->Q (.ref p) (upd H p (.dK []))
section
variable {X:Cx} {pos:Pos}
theorem pe_dnewK:PE X (.Dict [] [] pos) tDNewK:=fun pins s σ H Q I h =>
 wpAny_Dict_empty ⟨.ref s.heap.objs.size,_,I.laid (a:=s.heap.objs.size) (o:=.dK []) (t':=s.toks) (fun _ _ q=>zqah _ q) (zqae _) (dk_empty s.heap I.big),rfl,h _ (I.hok.fresh (zqae _))⟩
end
noncomputable def tPairs:List (TE×TE)->St->Hp->(List (V×V)->Hp->Prop)->Prop
 | [],_,H,Q=>Q [] H
 | (tk,tv)::r,σ,H,Q=>tk σ H fun x H1=>tv σ H1 fun y H2=>tPairs r σ H2 fun ps H3=>Q ((x,y)::ps) H3
abbrev VV:List (V×V)->List (Value×Value)->Prop:=Paired fun p q=>RelV p.1 q.1/\RelV p.2 q.2
def PPs (X:Cx) (pos:Pos) (keys:List (Option Expr)) (values:List Expr) (trs:List (TE×TE)):Prop :=
 ∀ (pins:List (Addr×Obj)) (s:Shared) (σ:St) (H:Hp) (Q:List (V×V)->Hp->Prop),Inv X pins σ H s->tPairs trs σ H Q ->
  wpAny (model X.prog X.w) X.A (evalPairs (pairTrees keys values X.env pos)) (fun vs s'=>∃ ps H',Inv X pins σ H' s'/\VV ps vs/\Q ps H') X.xe s
theorem pps_nil {X:Cx} {pos:Pos}:PPs X pos [] [] []:=fun pins s σ H Q I h=>pairTrees_nil_walk ⟨[],H,I,.nil,h⟩
theorem pps_cons {X:Cx} {pos:Pos} {k v:Expr} {ks:List (Option Expr)} {vs:List Expr} {tk tv:TE} {trs:List (TE×TE)} (hk:PE X k tk) (hv:PE X v tv) (hr:PPs X pos ks vs trs):PPs X pos (some k::ks) (v::vs) ((tk,tv)::trs):=fun pins s σ H Q I h =>
 pairTrees_cons_walk (thn (hk pins s σ H _ I h) fun u s1 ⟨x,H1,I1,rx,q1⟩=>thn (hv pins s1 σ H1 _ I1 q1) fun w2 s2 ⟨y,H2,I2,ry,q2⟩ =>
  thn (hr pins s2 σ H2 _ I2 q2) fun ws s3 ⟨ps,H3,I3,rel,q3⟩=>⟨(x,y)::ps,H3,I3,.cons ⟨rx,ry⟩ rel,q3⟩)
def mergeK (kvs more:List (Key×V)):List (Key×V):=more.foldl (fun acc kv=>putK acc kv.1 kv.2) kvs
theorem KV.merge:∀ {more:List (Key×V)} {rs:List (Key×Value)} {kvs:List (Key×V)} {vs:List (Key×Value)},KV more rs->KV kvs vs->KV (mergeK kvs more) (merged vs rs):=by
 intro more rs kvs vs r
 unfold KV at r
 induction r generalizing kvs vs with
 | nil=>intro q;exact q
 | @cons p q ps qs h t ih =>
  intro r0
  have e:KV (putK kvs p.1 p.2) (stored vs q.1 q.2):=by
   have:=r0.put p.1 h.2
   rw [<- h.1];exact this
  exact ih e
theorem length_mergeK:∀ (more kvs:List (Key×V)),(mergeK kvs more).length<=kvs.length+more.length
 | [],kvs=>by show kvs.length<=kvs.length+0;omega
 | p::r,kvs=>by
  have h1:=length_mergeK r (putK kvs p.1 p.2)
  have h2:=length_putK kvs p.1 p.2
  show (mergeK (putK kvs p.1 p.2) r).length<=_
  rw [zqa2];omega
theorem carries_of {P:Program} {w:World}:∀ {kvs:List (Key×V)} {ws:List (Value×Value)},VV (kvs.map fun kv=>(kV kv.1,kv.2)) ws->∃ rs,Carries (mixKind P w) ws rs/\KV kvs rs
 | [],_,r=>by rw [List.map_nil] at r;cases r;exact ⟨[],True.intro,.nil⟩
 | p::kvs,_,r=>by
  rw [zqbm] at r
  cases r with
  | @cons a b as bs h t =>
   obtain ⟨rs,c,q⟩:=carries_of (P:=P) (w:=w) t
   obtain ⟨b1,b2⟩:=b
   exact ⟨(p.1,b2)::rs,⟨kV_is h.1,rfl,c⟩,.cons ⟨rfl,h.2⟩ q⟩
def tDisp (trs:List (TE×TE)):TE:=fun σ H Q=>∀ p,H p=none->tPairs trs σ (upd H p (.dK [])) fun ps H2=>H2 p=some (.dK [])/\∃ kvs:List (Key×V),ps=kvs.map (fun kv=>(kV kv.1,kv.2))/\kvs.length<=15/\Q (.ref p) (upd H2 p (.dK (mergeK [] kvs)))
theorem pe_disp {X:Cx} {pos:Pos} {keys:List (Option Expr)} {values:List Expr} {trs:List (TE×TE)} (h:PPs X pos keys values trs) (hall:keys.all (·.isSome)=true) (hl:keys.length=values.length) (h0:keys≠[]) (h15:keys.length<=15):PE X (.Dict keys values pos) (tDisp trs):=by
 intro pins s σ H Q I q
 have hn:=I.hok.fresh (zqae s.heap.objs.size)
 have I1:=I.laid (a:=s.heap.objs.size) (o:=.dK []) (h':=s.heap.push { cls:=.type "dict",data:=.dict #[] }) (t':=s.toks) (fun _ _ q=>zqah _ q) (zqae _) (dk_empty s.heap I.big)
 refine wpAny_Dict_walk (knd:=mixKind X.prog X.w) hall hl h0 h15 (thn (h pins _ σ _ _ I1 (q _ hn)) ?_)
 rintro ws s2 ⟨ps,H2,I2,rel,e,kvs,rfl,lk,q2⟩
 obtain ⟨rs,c,rk⟩:=carries_of (P:=X.prog) (w:=X.w) rel
 obtain ⟨z,hd,vs0,r0,dd⟩:=dk_of I2.hok e
 cases r0
 refine ⟨rs,c,dd,fun h' dd' hs=>⟨.ref s.heap.objs.size,_,?_,rfl,q2⟩⟩
 have hz:(mergeK [] kvs).length<=sizeLine:=by
  have h1:=length_mergeK kvs []
  rw [zqcz] at h1
  rw [sizeLine_eq];omega
 have he:∃ q,h'.get? s.heap.objs.size=some q:=let ⟨q,_,_,hq,_⟩:=dd';⟨q,hq⟩
 exact d_write I2 (by rw [e];exact True.intro) hs he (dk_new hz hd (rk.merge .nil) dd')
structure M1 (X:Cx) (o:Expr) (m:Str) (apos:Pos) (e:Expr) (cpos:Pos):Prop where
 base:attributeBase o m X.env (eval o X.env)=eval o X.env
 few:((backTo cpos (starEach [e] X.env)).all (fun x=>!x.1) && (backToKw cpos (keywordEach [] X.env)).all (fun x=>x.1.isSome)
  && decide (([e]:List Expr).length+([]:List Keyword).length+(if ([]:List Keyword).isEmpty then 0 else 1) < 30))=true
 line:(apos.endLine == cpos.line)=true
 trees:backTo cpos (starEach [e] X.env)=[(false,eval e X.env)]
structure M2 (X:Cx) (o:Expr) (m:Str) (apos:Pos) (e f:Expr) (cpos:Pos):Prop where
 base:attributeBase o m X.env (eval o X.env)=eval o X.env
 few:((backTo cpos (starEach [e,f] X.env)).all (fun x=>!x.1) && (backToKw cpos (keywordEach [] X.env)).all (fun x=>x.1.isSome)
  && decide (([e,f]:List Expr).length+([]:List Keyword).length+(if ([]:List Keyword).isEmpty then 0 else 1) < 30))=true
 line:(apos.endLine == cpos.line)=true
 trees:backTo cpos (starEach [e,f] X.env)=[(false,eval e X.env),(false,eval f X.env)]
end L2
namespace HT
open PySem PyProof.Rows
section
open PySem.SeqAt
open PySem.AutoSeq1 (wpAny_loadPart')
open PySem.MeetsSeq PySem.MeetsSeq2 PySem.MeetsSeq3
end
section
variable {prog:Program} {w:World} {A:Around} {E:Value->Shared->Prop} {s:Shared}
theorem cat_tup {t b:Addr} {vs ws:List Value} {Q:Value->Shared->Prop} (ht:IsTup s.heap t vs.toArray) (hb:IsTup s.heap b ws.toArray) (hv:vs≠[]) (h1:ws=[]->Q (.ref t) s) (h2:ws≠[]->Q (.ref s.heap.objs.size) { s with heap:=s.heap.push { cls:=.type "tuple",data:=.seq (vs++ws).toArray } }) (hsz:vs.length+ws.length<=sizeLine):wpAny (model prog w) A (binaryOp .Add (.ref t) (.ref b)) Q E s:=by
 obtain ⟨⟨cls,dd,data,sl⟩,ho,hc,n,hd⟩:=id ht
 obtain ⟨⟨cls2,dd2,data2,sl2⟩,ho2,hc2,n2,hd2⟩:=id hb
 simp only at hc hd hc2 hd2
 subst hc hd hc2 hd2
 have e:vs.toArray++ws.toArray=(vs++ws).toArray:=by simp
 by_cases hw:ws=[]
 ·exact concat_meets ⟨_,ho,rfl⟩ ⟨_,ho2,rfl⟩ noFill_tuple_add seq_tuple_add zqco zqcm (zqci _ _)
   (tuple_addW1 t b vs.toArray ws.toArray n n2 dd dd2 sl sl2 (by simpa using hv) (by simp [hw])) ⟨ho,ho2,h1 hw⟩
 ·refine concat_meets ⟨_,ho,rfl⟩ ⟨_,ho2,rfl⟩ noFill_tuple_add seq_tuple_add zqco zqcm (zqci _ _)
   (tuple_addW2 t b vs.toArray ws.toArray n n2 dd dd2 sl sl2 (by simpa using hv) (by simpa using hw) (by rw [zqaj,zqaj];exact hsz)) ⟨ho,ho2,?_⟩
  rw [e]
  exact h2 hw
end
end HT
namespace L2
open PySem PySem.Spec PyProof.Rows
abbrev TO:=St->Hp->(Option Int->Hp->Prop)->Prop
noncomputable def PO (X:Cx) (e:Option Expr) (t:TO):Prop :=
 ∀ (pins:List (Addr×Obj)) (s:Shared) (σ:St) (H:Hp) (Q:Option Int->Hp->Prop),Inv X pins σ H s->t σ H Q ->
  wpAny (model X.prog X.w) X.A (evalPart e X.env) (fun u s'=>∃ o H',Inv X pins σ H' s'/\IsPart u o/\Q o H') X.xe s
def tNoPart:TO:=fun _ H Q=>Q none H
noncomputable def tPart (t:TE):TO:=fun σ H Q=>t σ H fun x H1=>∃ i,x=.int i/\Q (some i) H1
section
variable {X:Cx} {e:Expr} {te:TE} {lo hi:Option Expr} {tl th:TO} {pos p2:Pos}
theorem po_none:PO X none tNoPart:=by
 intro pins s σ H Q I h
 rw [evalPart_none]
 exact zqas ⟨none,H,I,.none,h⟩
theorem po_some (h:PE X e te):PO X (some e) (tPart te):=by
 intro pins s σ H Q I hw
 rw [evalPart_some]
 refine thn (h pins s σ H _ I hw) ?_
 rintro u s1 ⟨x,H1,I1,r1,q1⟩
 obtain ⟨i,rfl,q⟩:=q1
 obtain ⟨t,rfl⟩:=r1
 exact ⟨some i,H1,I1,.int i t,q⟩
def rCatT (K:PySem.W.Frag):R2:=fun x y H Q=>∃ a b xs ys,x=.ref a/\y=.ref b/\SqT K H a xs/\SqT K H b ys/\xs≠[]/\xs.length+ys.length<=sizeLine /\
 (ys=[]->Q (.ref a) H)/\(ys≠[]->∀ p,H p=none->Q (.ref p) (upd H p (.tup (xs++ys))))
theorem Vals.nil_iff {xs:List V} {us:List Value} (r:Vals xs us):us=[]↔xs=[]:=by
 cases r with
 | nil=>simp
 | cons _ _=>simp
theorem op_catT:OpR X (binaryOp .Add) (rCatT X.K):=by
 intro pins s σ H x y v u Q I rx ry h
 obtain ⟨a,b,xs,ys,rfl,rfl,ha,hb,hx,hz,q1,q2⟩:=h
 cases rx
 cases ry
 obtain ⟨its,r1,p1,_⟩:=I.tuple ha
 obtain ⟨its2,r2,p2,_⟩:=I.tuple hb
 refine HT.cat_tup p1 p2 (fun z=>hx (r1.nil_iff.mp z)) (fun z=>⟨.ref a,H,I,rfl,q1 (r2.nil_iff.mp z)⟩) (fun z=>?_) (by rw [<- r1.length,<- r2.length];exact hz)
 refine ⟨.ref s.heap.objs.size,_,I.laid (t':=s.toks) (o:=.tup (xs++ys)) (fun b ob q=>zqah _ q) (zqae _) ?_,rfl,q2 (fun w=>z (r2.nil_iff.mpr w)) _ (I.hok.fresh (zqae _))⟩
 exact ⟨by rw [zqau];exact hz,_,r1.append r2,IsTup.new _ _⟩
end
noncomputable def ixN (n:Nat) (i:Int):Option Nat:=if 0<=i then (if i < n then some i.toNat else none) else if -(n:Int)<=i then some (i+n).toNat else none
def atI {α:Type} (xs:List α) (i:Int):Option α:=(ixN xs.length i).bind fun j=>xs[j]?
theorem ixN_seq {n:Nat} {i:Int} {j:Nat} (h:ixN n i=some j):seqIndex? i n=some j/\j < n/\-(n:Int)<=i/\i < n:=by
 unfold ixN at h
 by_cases h0:0<=i
 ·rw [zqav h0] at h
  by_cases h1:i < n
  ·rw [zqav h1] at h
   have e:i.toNat=j:=zqag h
   exact ⟨by rw [seqIndex_of h0 h1,e],∅,∅,h1⟩
  ·rw [zqax h1] at h;cases h
 ·rw [zqax h0] at h
  by_cases h1:-(n:Int)<=i
  ·rw [zqav h1] at h
   have e:(i+n).toNat=j:=zqag h
   exact ⟨by rw [seqIndex_neg (∅) h1,e],∅,h1,∅⟩
  ·rw [zqax h1] at h;cases h
theorem atI_get {α:Type} {xs:List α} {i:Int} {v:α} (h:atI xs i=some v):∃ j,seqIndex? i xs.length=some j/\xs[j]?=some v/\j < xs.length/\-(xs.length:Int)<=i/\i < xs.length:=by
 unfold atI at h
 cases e:ixN xs.length i with
 | none=>rw [e] at h;cases h
 | some j =>
  rw [e] at h
  obtain ⟨h1,h2,h3,h4⟩:=ixN_seq e
  exact ⟨j,h1,h,h2,h3,h4⟩
noncomputable def PlainIx (b:Expr):Prop:=∀ o i,subscripted b false o i=operate [o,i] (getItem o i)
def IxR (X:Cx) (r:R2):Prop :=
 ∀ (value slice:Expr) (pins:List (Addr×Obj)) (s:Shared) (σ:St) (H:Hp) (x y:V) (v u:Value) (Q:VK),Inv X pins σ H s->RelV x v->RelV y u->r x y H Q ->
  subscripted slice false v u=operate [v,u] (getItem v u)->wpAny (model X.prog X.w) X.A (subscriptTail value slice v u) (EP X pins σ Q) X.xe s
def MtR (X:Cx) (id:String) (r:V->List V->Hp->VK->Prop):Prop :=
 ∀ (pins:List (Addr×Obj)) (s:Shared) (σ:St) (H:Hp) (x:V) (xs:List V) (v:Value) (us:List Value) (Q:VK),Inv X pins σ H s->RelV x v->Vals xs us->r x xs H Q ->
  wpAny (model X.prog X.w) X.A (call (.builtin id) (v::us)) (EP X pins σ Q) X.xe s
section
variable {X:Cx} {a b:Expr} {ta tb:TE} {pos:Pos}
theorem pe_ix {r:R2} (hr:IxR X r) (ha:PE X a ta) (hb:PE X b tb) (hs:PlainIx b):PE X (.Subscript a b pos) (tOp r ta tb):=by
 intro pins s σ H Q I h
 exact Subscript_ (binT ha hb I h fun v u s2 x y H2 I2 rx ry q=>hr a b pins s2 σ H2 x y v u Q I2 rx ry q (hs _ _))
def rIxL (K:PySem.W.Frag):R2:=fun x y H Q=>∃ p xs i v,x=.ref p/\y=.int i/\SqL K H p xs/\atI xs i=some v/\Q v H
def rIxT (K:PySem.W.Frag):R2:=fun x y H Q=>∃ p xs i v,x=.ref p/\y=.int i/\SqT K H p xs/\atI xs i=some v/\Q v H
def rIxS:R2:=fun x y H Q=>∃ z i c,x=.str z/\y=.int i/\z.length<=sizeLine/\atI z.cps.toList i=some c/\Q (.str ⟨#[c]⟩) H
theorem ix_list:IxR X (rIxL X.K):=by
 intro value slice pins s σ H x y v u Q I rx ry h hs
 obtain ⟨p,xs,i,z,rfl,rfl,hq,he,q⟩:=h
 cases rx
 obtain ⟨t,rfl⟩:=ry
 obtain ⟨its,r,pl,hz⟩:=I.list hq
 obtain ⟨j,h1,h2,h3,h4,h5⟩:=atI_get he
 obtain ⟨w,ew,rw'⟩:=r.get h2
 have hl:=r.length
 have hn:=line63
 have fin:EP X pins σ Q w s:=⟨z,H,I,rw',q⟩
 by_cases h0:0<=i
 ·have hj:i.toNat=j:=by
   rw [seqIndex_of h0 h5] at h1
   exact zqag h1
  exact item_listR pl.isList h0 (∅) (by rw [hj];simpa using ew) fin hs
 ·have hj:(i+(its.toArray.size:Int)).toNat=j:=by
   rw [seqIndex_neg (∅) h4] at h1
   rw [zqaj,<- hl]
   exact zqag h1
  exact subscriptTail_builtinR (x:=w) pl.isList.typeIs slot_list_getitem.lookup
   (wpAny_getItem_list_neg (Q:=fun r s'=>r=w/\EP X pins σ Q r s') pl.isList (∅) (by rw [zqaj] <;> omega) (∅) (by rw [hj];simpa using ew) ⟨rfl,fin⟩) hs
theorem ix_tup:IxR X (rIxT X.K):=by
 intro value slice pins s σ H x y v u Q I rx ry h hs
 obtain ⟨p,xs,i,z,rfl,rfl,hq,he,q⟩:=h
 cases rx
 obtain ⟨t,rfl⟩:=ry
 obtain ⟨its,r,pl,hz⟩:=I.tuple hq
 obtain ⟨j,h1,h2,h3,h4,h5⟩:=atI_get he
 obtain ⟨w,ew,rw'⟩:=r.get h2
 have hl:=r.length
 have hn:=line63
 have fin:EP X pins σ Q w s:=⟨z,H,I,rw',q⟩
 exact subscriptTail_builtinR (x:=w) pl.typeIs slot_tuple_getitem.lookup
  (getItem_tuple (j:=j) (Q:=fun r s'=>r=w/\EP X pins σ Q r s') pl (∅) (∅) (by rw [zqaj,<- hl];exact h1) (by simpa using ew) ⟨rfl,fin⟩) hs
theorem ix_str:IxR X rIxS:=by
 intro value slice pins s σ H x y v u Q I rx ry h hs
 obtain ⟨z,i,c,rfl,rfl,hz,he,q⟩:=h
 obtain ⟨t,rfl⟩:=rx
 obtain ⟨t',rfl⟩:=ry
 obtain ⟨j,h1,h2,h3,h4,h5⟩:=atI_get he
 have hl:z.cps.toList.length=z.length:=by simp [Str.length]
 rw [hl] at h1 h4 h5
 have hn:=line63
 exact tail_any (typeIs_str s z t) slot_str_getitem.lookup (getItem_str (c:=c) (by
  have e1:decide (i < -(2 ^ 63:Int))=false:=zqay (∅)
  have e2:decide (i ≥ 2 ^ 63)=false:=zqay (∅)
  rw [e1,e2,Bool.or_false]) (by rw [h1];simpa using h2) ⟨.str ⟨#[c]⟩,H,I.tok _,⟨_,rfl⟩,q⟩) hs
theorem mapSeq_set (its:List Value) (n j:Nat) (u:Value):Obj.mapSeq (·.setIfInBounds j u) { cls:=.type "list",data:=.seq its.toArray n }={ cls:=.type "list",data:=.seq (its.set j u).toArray n }:=by
 simp [Obj.mapSeq]
theorem Inv.lst {pins:List (Addr×Obj)} {σ:St} {H:Hp} {s:Shared} {p:Addr} {xs:List V} (I:Inv X pins σ H s) (h:H p=some (.lst xs)):∃ (its:List Value) (n:Nat),Vals xs its/\s.heap.get? p=some { cls:=.type "list",data:=.seq its.toArray n }/\xs.length<=sizeLine:=by
 obtain ⟨z,its,n,r,e⟩:=I.hok p _ h
 exact ⟨its,n,r,e,z⟩
theorem Inv.lstUpd {pins:List (Addr×Obj)} {σ:St} {H:Hp} {s:Shared} {p:Addr} {xs ys:List V} {its its':List Value} {n n':Nat} {f:Obj->Obj} (I:Inv X pins σ H s) (h:H p=some (.lst xs)) (ho:s.heap.get? p=some { cls:=.type "list",data:=.seq its.toArray n }) (hf:f { cls:=.type "list",data:=.seq its.toArray n }={ cls:=.type "list",data:=.seq its'.toArray n' }) (r:Vals ys its') (hz:ys.length<=sizeLine) (t:Nat):Inv X pins σ (upd H p (.lst ys)) { s with heap:=s.heap.update p f,toks:=t }:=by
 have e:(s.heap.update p f).get? p=some { cls:=.type "list",data:=.seq its'.toArray n' }:=by
  rw [zqcb f ho (by rw [hf] <;> rfl),hf]
 refine I.write (x:=p) (e:=p) (by rw [h];trivial) (.inl rfl) (fun b u hb q=>(zqbb _ _ (zqbd hb)).trans q) ⟨_,e⟩ ?_
 exact ⟨hz,its',n',r,e⟩
def rSetL:V->V->V->Hp->(Hp->Prop)->Prop:=fun o i v H Q=>∃ p xs k j,o=.ref p/\i=.int k/\H p=some (.lst xs)/\ixN xs.length k=some j/\Q (upd H p (.lst (xs.set j v)))
theorem set_list:PSet X rSetL:=by
 intro pins s σ H o i v ov iv u Q I ro ri rv h
 obtain ⟨p,xs,k,j,rfl,rfl,hp,hj,q⟩:=h
 cases ro
 obtain ⟨t,rfl⟩:=ri
 obtain ⟨its,n,r,ho,hz⟩:=I.lst hp
 obtain ⟨h1,h2,h3,h4⟩:=ixN_seq hj
 have hl:=r.length
 have hn:=line63
 have I':Inv X pins σ (upd H p (.lst (xs.set j v))) { s with heap:=s.heap.update p (Obj.mapSeq (·.setIfInBounds j u)) } :=
  I.lstUpd hp ho (mapSeq_set its n j u) (r.set rv j) (by rw [zqb5];exact hz) s.toks
 by_cases h0:0<=k
 ·have hk:k.toNat=j:=by
   rw [seqIndex_of h0 h4] at h1
   exact zqag h1
  exact PySem.W.ki_setAt ho h0 (∅) (by rw [zqaj,<- hl];exact h4) (by rw [hk];exact ⟨_,I',q⟩)
 ·have hk:(k+(its.toArray.size:Int)).toNat=j:=by
   rw [seqIndex_neg (∅) h3] at h1
   rw [zqaj,<- hl]
   exact zqag h1
  exact PySem.W.ki_setBack ho (∅) (by rw [zqaj,<- hl];exact h3) (∅) (by rw [hk];exact ⟨_,I',q⟩)
theorem call_len_seq:CallR X (.builtin "len") (fun xs H Q=>∃ p ys,xs=[.ref p]/\(SqL X.K H p ys\/SqT X.K H p ys)/\Q (.int ys.length) H):=by
 intro pins s σ H xs us Q I r h
 obtain ⟨p,ys,rfl,hq,q⟩:=h
 obtain ⟨u,rfl,rx⟩:=vals1 r
 cases rx
 have hn:=line63
 rcases hq with hq | hq
 ·obtain ⟨its,r',pl,hz⟩:=I.list hq
  have hlen:=r'.length
  exact Calls.call_len_list pl.isList (by simp only [zqaj] <;> omega) ⟨.int ys.length,H,I.tok _,⟨s.toks+1,by rw [zqaj,hlen]⟩,q⟩
 ·obtain ⟨its,r',pl,hz⟩:=I.tuple hq
  have hlen:=r'.length
  exact len_tuple pl (by simp only [zqaj] <;> omega) ⟨.int ys.length,H,I.tok _,⟨s.toks+1,by rw [zqaj,hlen]⟩,q⟩
theorem call_len_str:CallR X (.builtin "len") (fun xs H Q=>∃ z,xs=[.str z]/\z.length<=sizeLine/\Q (.int z.length) H):=by
 intro pins s σ H xs us Q I r h
 obtain ⟨z,rfl,hz,q⟩:=h
 obtain ⟨u,rfl,t,rfl⟩:=vals1 r
 have hn:=line63
 exact len_str (∅) ⟨.int z.length,H,I.tok _,⟨_,rfl⟩,q⟩
theorem call_list_of:CallR X (.type "list") (fun xs H Q=>∃ p ys,xs=[.ref p]/\(SqL X.K H p ys\/SqT X.K H p ys)/\∀ l,H l=none->Q (.ref l) (upd H l (.lst ys))):=by
  intro pins s σ H xs us Q I r h
  obtain ⟨p,ys,rfl,hq,q⟩:=h
  obtain ⟨u,rfl,rx⟩:=vals1 r
  cases rx
  have fin : ∀ (its : List Value), Vals ys its -> ys.length <= sizeLine -> ∀ (h' : Heap) (c' : Nat), (∀ b o', s.heap.get? b = some o' -> h'.get? b = some o') ->
      h'.get? s.heap.objs.size=some { cls:=.type "list",dict:=none,data:=.seq its.toArray c',slots:=#[] }->EP X pins σ Q (.ref s.heap.objs.size) { s with heap:=h' }:=fun its r' hz h' c' kp e =>
    ⟨.ref s.heap.objs.size,_,I.laid (t':=s.toks) kp (zqae _) (show ObjOk X.prog X.w _ h' _ (.lst ys) from ⟨hz,its,c',r',e⟩),rfl,q _ (I.hok.fresh (zqae _))⟩
  rcases hq with hq | hq
  · obtain ⟨its,r',pl,hz⟩:=I.list hq
    have hlen:=r'.length
    obtain ⟨o,ho,hc,n,hd⟩:=pl.isList
    exact call_list_seq p (.inl rfl) ho hc hd (fun h' c' kp e=>fin its r' hz h' c' kp e) (by simp only [zqaj] <;> omega)
  · obtain ⟨its,r',pl,hz⟩:=I.tuple hq
    have hlen:=r'.length
    obtain ⟨o,ho,hc,n,hd⟩:=pl
    exact call_list_seq p (.inr rfl) ho hc hd (fun h' c' kp e=>fin its r' hz h' c' kp e) (by simp only [zqaj] <;> omega)
theorem call_tuple_of:CallR X (.type "tuple") (fun xs H Q=>∃ p ys,xs=[.ref p]/\((SqL X.K H p ys/\∀ l,H l=none->Q (.ref l) (upd H l (.tup ys)))\/(SqT X.K H p ys/\Q (.ref p) H))):=by
 intro pins s σ H xs us Q I r h
 obtain ⟨p,ys,rfl,h⟩:=h
 obtain ⟨u,rfl,rx⟩:=vals1 r
 cases rx
 rcases h with ⟨hq,q⟩|⟨hq,q⟩
 ·obtain ⟨its,r',pl,hz⟩:=I.list hq
  have hlen:=r'.length
  refine call_tuple_list pl.isList (fun h' kp=>?_) (by simp only [zqaj] <;> omega)
  have I1:Inv X pins σ H { s with heap:=h' }:=I.kept (t':=s.toks) kp
  have I2:Inv X pins σ (upd H h'.objs.size (.tup ys)) { s with heap:=h'.push { cls:=.type "tuple",data:=.seq its.toArray } } :=
   I1.laid (t':=s.toks) (fun b o e=>zqah _ e) (zqae _) (show ObjOk X.prog X.w _ _ _ (.tup ys) from ⟨hz,its,r',IsTup.new _ _⟩)
  exact ⟨.ref h'.objs.size,_,I2,rfl,q _ (I1.hok.fresh (zqae _))⟩
 ·obtain ⟨its,r',pl,hz⟩:=I.tuple hq
  exact call_tuple_same pl ⟨.ref p,H,I,rfl,q⟩
def tyV (K:PySem.W.Frag) (T:String) (x:V) (H:Hp):Prop:=match x with
  | .str _=>T = "str"
  | .int _=>T = "int"
  | .ref p => (T = "list" /\ ∃ xs, SqL K H p xs) \/ (T = "tuple" /\ ∃ o, K.lookup p = some o /\ o.cls = .type "tuple" /\ o.dict = none) \/
      (T = "dict" /\ ((∃ kvs,H p=some (.dK kvs))\/∃ kvs,H p=some (.dT kvs)))\/(T = "set" /\ ∃ S n,H p=some (.set S n))
  | _=>False
theorem tyV_is {pins:List (Addr×Obj)} {σ:St} {H:Hp} {s:Shared} {T:String} {x:V} {v:Value} (I:Inv X pins σ H s) (r:RelV x v) (ty:tyV X.K T x H):s.TypeIs v T/\∀ a,v=.ref a->∃ ob,s.heap.get? a=some ob/\ob.dict=none:=by
 cases x with
 | str z =>
  obtain ⟨t,rfl⟩:=r
  cases (show T = "str" from ty)
  exact ⟨typeIs_str s z t,fun _ e=>nomatch e⟩
 | int i =>
  obtain ⟨t,rfl⟩:=r
  cases (show T = "int" from ty)
  exact ⟨typeIs_int s i t,fun _ e=>nomatch e⟩
 | ref p =>
  cases r
  rcases ty with ⟨rfl,xs,hq⟩|⟨rfl,o,hk,hc,hd⟩|⟨rfl,hk⟩|⟨rfl,S,n,hk⟩
  ·obtain ⟨its,_,pl,_⟩:=I.list hq
   refine ⟨pl.isList.typeIs,fun a e=>?_⟩
   cases e
   obtain ⟨o,n,e,c,hd,_⟩:=pl
   exact ⟨o,e,hd⟩
  ·refine ⟨⟨o,I.kIn p o hk,hc⟩,fun a e=>?_⟩
   cases e
   exact ⟨o,I.kIn _ o hk,hd⟩
  ·have z:∃ o,s.heap.get? p=some o/\o.ExactDict:=by
    rcases hk with ⟨kvs,hk⟩|⟨kvs,hk⟩
    ·obtain ⟨_,_,_,_,o,_,_,e,ex,_⟩:=I.hok p _ hk
     exact ⟨o,e,ex⟩
    ·obtain ⟨_,_,_,_,o,_,_,e,ex,_⟩:=I.hok p _ hk
     exact ⟨o,e,ex⟩
   obtain ⟨o,e,ex⟩:=z
   refine ⟨⟨o,e,ex.1⟩,fun a e2=>?_⟩
   cases e2
   exact ⟨o,e,ex.2.1⟩
  ·obtain ⟨o,_,_,_,e,ex,_⟩:=I.hok p _ hk
   refine ⟨⟨o,e,ex.1⟩,fun a e2=>?_⟩
   cases e2
   exact ⟨o,e,ex.2.1⟩
 | _=>exact False.elim ty
def tBM0 (K:PySem.W.Frag) (T:String) (r:V->List V->Hp->VK->Prop) (to:TE):TE:=fun σ H Q=>to σ H fun x H1=>tyV K T x H1/\r x [] H1 Q
def tBM (K:PySem.W.Frag) (T:String) (r:V->List V->Hp->VK->Prop) (to:TE) (t:TA):TE:=fun σ H Q=>to σ H fun x H1=>tyV K T x H1/\t σ H1 fun xs H2=>r x xs H2 Q
variable {o e:Expr} {es:List Expr} {to:TE} {t:TA} {name:Str} {apos cpos:Pos} {T id:String} {r:V->List V->Hp->VK->Prop}
theorem pe_bm0 (pa:PlainAttrs T) (slot:Slot T name id) (hty:typeOf (.builtin id)=pure (.type "method_descriptor")) (hm:MtR X id r) (ho:PE X o to) (hbase:attributeBase o name X.env (eval o X.env)=eval o X.env:=by rfl) (hline:(apos.endLine == cpos.line)=true:=by rfl):PE X (.Call (.Attribute o name apos) [] [] cpos) (tBM0 X.K T r to):=by
 intro pins s σ H Q I h
 refine wpAny_Call_method0_late hbase hline (thn (ho pins s σ H _ I h) ?_)
 rintro v s1 ⟨x,H1,I1,r1,ty,q1⟩
 obtain ⟨h1,h2⟩:=tyV_is I1 r1 ty
 exact ⟨T,id,pa,slot,hty,h1,h2,Calls.callWith_builtin rfl (PySem.evalArgs_none (hm pins s1 σ H1 x [] v [] Q I1 r1 .nil q1))⟩
theorem pe_bm (pa : PlainAttrs T) (slot : Slot T name id) (hty : typeOf (.builtin id) = pure (.type "method_descriptor")) (hm : MtR X id r) (ho : PE X o to) (ha : PA X (e :: es) t)
    (hbase:attributeBase o name X.env (eval o X.env)=eval o X.env:=by rfl)
    (hfew:((backTo cpos (starEach (e::es) X.env)).all (fun x=>!x.1) && (backToKw cpos (keywordEach [] X.env)).all (fun x=>x.1.isSome)
      && decide ((e::es).length+([]:List Keyword).length+(if ([]:List Keyword).isEmpty then 0 else 1) < 30))=true:=by rfl)
    (hline:(apos.endLine == cpos.line)=true:=by rfl) (hs:starEach (e::es) X.env=(false,eval e X.env)::starEach es X.env:=by rfl) (hplain:(backTo cpos (starEach es X.env)).any (·.1)=false:=by rfl) :
    PE X (.Call (.Attribute o name apos) (e::es) [] cpos) (tBM X.K T r to t):=by
  intro pins s σ H Q I h
  refine wpAny_Call_method_late hbase hfew hline rfl (thn (ho pins s σ H _ I h) ?_)
  rintro v s1 ⟨x,H1,I1,r1,ty,q1⟩
  obtain ⟨h1,h2⟩:=tyV_is I1 r1 ty
  refine ⟨T,id,pa,slot,hty,h1,h2,?_⟩
  have hA:=ha cpos pins s1 σ H1 _ I1 q1
  rw [hs] at hA ⊢
  refine Calls.callWith_builtin (by show (false || (backTo cpos (starEach es X.env)).any (·.1))=false;rw [hplain] <;> rfl) (Calls.evalArgs_plain ?_)
  exact thn hA fun us s2 ⟨vs,H2,I2,r2,q2⟩=>hm pins s2 σ H2 x vs v us Q I2 r1 r2 q2
end
def MtM (X:Cx) (id:String) (r:V->List V->Hp->VK->Prop):Prop :=
 ∀ (pins:List (Addr×Obj)) (s:Shared) (σ:St) (H:Hp) (x:V) (xs:List V) (v:Value) (us:List Value) (Q:VK),Inv X pins σ H s->RelV x v->Vals xs us->r x xs H Q ->
  wpAny (model X.prog X.w) X.A (call (.builtin id) (v::us)) (EP X pins σ Q) X.xe s
theorem Vals.one {x:V} {us:List Value} (h:Vals [x] us):∃ u,us=[u]/\RelV x u:=by
 cases h with
 | cons r t=>cases t;exact ⟨_,rfl,r⟩
theorem Vals.dropLast {xs:List V} {us:List Value} (h:Vals xs us):Vals xs.dropLast us.dropLast:=by
 induction h with
 | nil=>exact .nil
 | cons r t ih =>
  cases t with
  | nil=>exact .nil
  | cons q t'=>exact .cons r ih
theorem Vals.rep {xs:List V} {us:List Value} (h:Vals xs us):∀ k:Nat,Vals (List.replicate k xs).flatten (List.replicate k us).flatten
 | 0=>.nil
 | k+1=>by
  rw [zqbv,zqbv,zqb7,zqb7]
  exact Vals.append h (Vals.rep h k)
theorem foldl_rep (its:List Value):∀ (k:Nat) (acc:List Value),List.foldl (fun x1 x2=>x1++x2) acc.toArray (List.replicate k its.toArray)=(acc++(List.replicate k its).flatten).toArray
 | 0,acc=>by simp
 | k+1,acc=>by
  have e:acc.toArray++its.toArray=(acc++its).toArray:=by simp
  have e2:(acc++its)++(List.replicate k its).flatten=acc++(List.replicate (k+1) its).flatten:=by
   rw [zqbv,zqb7,zqb8]
  rw [<- e2,<- foldl_rep its k (acc++its),<- e,zqbv,List.foldl_cons]
section
variable {X:Cx} {pins:List (Addr×Obj)} {σ:St} {H:Hp} {s:Shared} {l b:Addr} {xs ys zs:List V}
theorem Inv.lset {its its':List Value} {n:Nat} {f:Array Value->Array Value} {t':Nat} (I:Inv X pins σ H s) (hH:H l=some (.lst xs)) (e:s.heap.get? l=some { cls:=.type "list",data:=.seq its.toArray n }) (hf:f its.toArray=its'.toArray) (hv:Vals ys its') (hz:ys.length<=sizeLine):Inv X pins σ (upd H l (.lst ys)) { s with heap:=s.heap.update l (Obj.mapSeq f),toks:=t' }:=by
 have q:=PySem.IsL.update e f
 rw [hf] at q
 refine I.write (x:=l) (e:=l) (by rw [hH];exact trivial) (.inl rfl) (fun b' u hb hu=>(zqbb s.heap (Obj.mapSeq f) (zqbd hb)).trans hu) ⟨_,q⟩ ?_
 exact ⟨hz,its',_,hv,q⟩
theorem Inv.lnew {its:List Value} {t':Nat} (I:Inv X pins σ H s) (hv:Vals ys its) (hz:ys.length<=sizeLine):Inv X pins σ (upd H s.heap.objs.size (.lst ys)) { s with heap:=s.heap.push { cls:=.type "list",data:=.seq its.toArray },toks:=t' } :=
 I.laid (fun _ _ q=>zqah _ q) (zqae _) ⟨hz,its,0,hv,zqa7 _ rfl⟩
theorem Inv.fresh (I:Inv X pins σ H s):H s.heap.objs.size=none:=I.hok.fresh (zqae _)
theorem Inv.lstM (I:Inv X pins σ H s) (hH:H l=some (.lst xs)):xs.length<=sizeLine/\∃ (its:List Value) (n:Nat),Vals xs its/\xs.length=its.length/\s.heap.get? l=some { cls:=.type "list",data:=.seq its.toArray n }:=by
 obtain ⟨z,its,n,r,e⟩:=I.hok l _ hH
 exact ⟨z,its,n,r,r.length,e⟩
theorem notLongL {n:Nat} (h:n<=sizeLine):Builtin.List.listTooLong n=false:=by
 unfold Builtin.List.listTooLong
 exact zqay (∅)
end
section
variable {X:Cx}
def rAppend:V->List V->Hp->VK->Prop:=fun x vs H Q=>∃ l xs y,x=.ref l/\vs=[y]/\H l=some (.lst xs)/\xs.length < sizeLine/\Q .non (upd H l (.lst (xs++[y])))
theorem mt_append:MtM X "list.append" rAppend:=by
 intro pins s σ H x vs v us Q I rx rv h
 obtain ⟨l,xs,y,rfl,rfl,hH,hz,q⟩:=h
 cases rx
 obtain ⟨u,rfl,ru⟩:=rv.one
 obtain ⟨z,its,n,r,hl,e⟩:=I.lstM hH
 refine call_meets F.slot_list_append ⟨_,e,rfl⟩ F.entry_list_append (F.args_list_append_2 _ _) (PySem.list_append l its.toArray n u (by rw [zqaj];omega)) ⟨e,?_⟩
 refine ⟨.non,_,I.lset (its':=its++[u]) hH e (by simp) (r.append (.cons ru .nil)) ?_,rfl,q⟩
 rw [zqau,List.length_singleton]
 omega
def rCat:R2:=fun x y H Q=>∃ l b xs zs,x=.ref l/\y=.ref b/\H l=some (.lst xs)/\H b=some (.lst zs)/\xs.length+zs.length<=sizeLine/\∀ p,H p=none->Q (.ref p) (upd H p (.lst (xs++zs)))
theorem op_cat:OpR X (binaryOp .Add) rCat:=by
 intro pins s σ H x y v u Q I rx ry h
 obtain ⟨l,b,xs,zs,rfl,rfl,hH,hB,hz,q⟩:=h
 cases rx
 cases ry
 obtain ⟨z,its,n,r,hl,e⟩:=I.lstM hH
 obtain ⟨z2,its2,n2,r2,hl2,e2⟩:=I.lstM hB
 refine PySem.P.add_list e e2 ?_ (by rw [zqaj,zqaj];omega)
 have ea:its.toArray++its2.toArray=(its++its2).toArray:=by simp
 rw [ea]
 exact ⟨.ref _,_,I.lnew (t':=s.toks) (r.append r2) (by rw [zqau];omega),rfl,q _ I.fresh⟩
def rRep:R2:=fun x y H Q=>∃ l k xs,x=.ref l/\y=.int k/\H l=some (.lst xs)/\-(2 ^ 63)<=k/\k < 2 ^ 63/\xs.length * k.toNat<=sizeLine /\
 ∀ p,H p=none->Q (.ref p) (upd H p (.lst (List.replicate k.toNat xs).flatten))
theorem len_rep {α:Type} (xs:List α) (k:Nat):(List.replicate k xs).flatten.length=k * xs.length:=by
 induction k with
 | zero=>simp
 | succ k ih=>rw [zqbv,zqb7,zqau,ih,Nat.succ_mul,Nat.add_comm]
theorem op_rep:OpR X (binaryOp .Mult) rRep:=by
 intro pins s σ H x y v u Q I rx ry h
 obtain ⟨l,k,xs,rfl,rfl,hH,h1,h2,hz,q⟩:=h
 cases rx
 obtain ⟨t,rfl⟩:=ry
 obtain ⟨z,its,n,r,hl,e⟩:=I.lstM hH
 have hlen:its.toArray.size * k.toNat<=sizeLine:=by rw [zqaj,<- hl];exact hz
 have hcap:¬ its.toArray.size * k.toNat > (2 ^ 63 - 1) / 8:=by
  have:(sizeLine:Nat)<=(2 ^ 63 - 1) / 8:=by decide
  omega
 have hfit:¬ (!Builtin.List.listFitsIndex k)=true:=by
  rw [fitsIndex_both h1 h2]
  exact zqaa
 have hlong:¬ Builtin.List.listTooLong (its.toArray.size * k.toNat)=true:=by
  rw [notLongL hlen]
  exact zqaa
 have hnew:List.foldl (fun x1 x2=>x1++x2) #[] (List.replicate (if its.toArray.isEmpty=true then 0 else k.toNat) its.toArray)=(List.replicate k.toNat its).flatten.toArray:=by
  have f0:∀ m:Nat,List.foldl (fun x1 x2=>x1++x2) #[] (List.replicate m its.toArray)=(List.replicate m its).flatten.toArray:=fun m=>by
   have:=foldl_rep its m []
   rw [List.nil_append] at this
   exact this
  rw [f0]
  cases its with
  | nil=>simp
  | cons a r'=>rw [zqax (by simp)]
 refine wpAny_binaryOp_repeat_ref (T := "list") (U := "int") (by decide) ⟨_,e,rfl⟩ (fun s'=>typeIs_int s' k t) noFill_list_mul F.fills_int_mul F.slot_int_rmul repeat_list F.slot_int_index.lookup
  (call_meets F.slot_int_rmul (typeIs_int s k t) F.entry_int_rmul (F.args_int_rmul_2 _ _) (int___rmul___int_list k t l its.toArray n)
   ⟨e,rfl,⟨_,e,rfl⟩,call_meets F.slot_list_mul ⟨_,e,rfl⟩ F.entry_list_mul (F.args_list_mul_2 _ _) (AutoListH.list___mul___list_int_3 l its.toArray n k t hfit hcap hlong) ⟨e,?_⟩⟩)
 rw [hnew]
 exact ⟨.ref _,_,I.lnew (t':=s.toks) (r.rep k.toNat) (by rw [len_rep,Nat.mul_comm];exact hz),rfl,q _ I.fresh⟩
end
end L2
namespace Att
open PySem PySem.W PySem.Calls PyProof.Rows
theorem ints_of_wellAll {P:Params} {h:Heap}:∀ (ns:List Int) (vs:List Value),WellAll P h vs (ns.map WData.int)->IntsAre vs ns:=by
 intro ns
 induction ns with
 | nil =>
  intro vs w
  rw [List.map_nil] at w
  cases w
  exact .nil
 | cons n ns ih =>
  intro vs w
  rw [zqbm] at w
  cases w with
  | cons a b =>
   cases a
   exact .cons _ _ (ih _ b)
theorem script_of {l:OpenLaw} {n:Nat} (hn:l.most=some n) {P:Params} {h:Heap} {args:List WData} {vals:List Value} (hpre:l.row.toRowW.claim.pre args=true) (hwl:WellAll P h vals args):∃ a vs ns,vals=[Value.ref a]/\args=[WData.list (ns.map WData.int)]/\h.get? a=some { cls:=.type "list",data:=.seq vs.toArray }/\IntsAre vs ns/\ns.length<=n:=by
 have hsh:WShape.hasAll [] args [.list .int]=true:=(pre_splitW hpre).1
 have hc:l.pre.holds [] { args:=args }=true:=(pre_splitW hpre).2
 obtain ⟨d,r,rfl,h1,h2⟩:=hasAllW_cons hsh
 obtain rfl:=hasAllW_nil h2
 obtain ⟨xs,rfl,h3⟩:=hasW_list h1
 obtain ⟨ns,rfl⟩:=items_int h3
 have hlen:ns.length<=n:=by
  unfold OpenLaw.pre at hc
  have h4:(WTm.not (.lt (.lit (.int (n:Int))) (.len (.arg 0)))).holds [] { args:=[.list (ns.map .int)] }=true:=by
   have h4:=(holds_andW hc).1
   rw [hn] at h4
   exact h4
  have h5:=condW_of h4 (w_not (w_lt w_lit (w_len_list (w_arg rfl))))
  rw [zqaz] at h5
  refine Nat.le_of_not_lt fun q=>?_
  have q':(n:Int) < ((ns.length:Nat):Int):=∅
  first
   | (rw [zqbo q'] at h5;exact absurd h5 (by decide))
   | (simp at h5;omega)
 cases hwl with
 | cons w1 w2 =>
  cases w2
  cases w1 with
  | list ho hall=>exact ⟨_,_,ns,rfl,rfl,ho,ints_of_wellAll ns _ hall,hlen⟩
theorem post_true (l:OpenLaw) (args:List WData):l.row.toRowW.claim.post args (.bool true) args=true :=
 postW_of (r:=l.row.toRowW) (X:=(true == true))
  (show WShape.has [] (.bool true) .bool=true by first | rfl | decide | simp [WShape.has,WShape.arms,WShape.armsAll])
  (show (WTm.eq .res (.lit (.bool true))).value [] { args:=args,res:=some (.bool true),after:=args }=some (.bool (true == true)) from w_eq_bool (w_res rfl) w_lit) rfl
theorem attach_call {l : OpenLaw} {n : Nat} {q : Program} {loose : List Str} {XP : (Str -> Option Value) -> Heap -> Prop} {YP : World -> Heap -> Prop} {d : DefRec}
    (hn:l.most=some n) (hdf:d.params.defaults=[])
    (call:∀ (w:World) (s₀ s₁:Shared) (mg mb:Str->Option Value) (fa:Addr) (o:Obj) (pm cd doc:Value) (a:Addr) (vs:List Value) (ns:List Int),
      Ground q loose [] XP w s₀ mg mb s₁.heap->YP w s₁.heap ->
      s₁.heap.get? fa=some o->o.data=.func (docDef d.name d.params d.body d.scope pm cd doc)->s₁.heap.CodeRec cd d.name->mg d.name=some (.ref fa) ->
      s₁.heap.get? a=some { cls:=.type "list",data:=.seq vs.toArray }->IntsAre vs ns->ns.length<=n->s₁.gens=#[] ->
      codeAny (model l.prog w) callerA (.call (.ref fa) ⟨[.ref a],[]⟩) (fun r s'=>r=.ok (.ret (.bool true))/\OldK s₁.heap s'.heap/\s'.os=s₁.os/\AllBare s'.gens) s₁) :
    WalkO q loose XP YP l.row.toRowW d [] (fun f vs=>PySem.call f vs):=by
  intro w s₀ s₁ mg mb G Y fa o pm cd doc dV kV ho hd hcd hD hmg hg args vals as hpre hlay hrd hwl hlo
  obtain rfl:dV=.none:=Dflts.none hD hdf
  obtain rfl:kV=.none:=Dflts.noKw hD
  obtain ⟨a,vs,ns,rfl,rfl,hobj,hints,hlen⟩:=script_of hn hpre hwl
  refine enter_call (zqca (call w s₀ s₁ mg mb fa o pm cd doc a vs ns G Y ho (fd_plain hd) hcd hmg hobj hints hlen hg) fun r s' hq=>?_)
  obtain ⟨rfl,h2,h3,h4⟩:=hq
  exact ⟨.inl ⟨.bool true,.bool true,[],rfl,fun _=>rfl,.bool true,post_true l _,fun _=>⟨List.Pairwise.nil,fun _ hm=>(nomatch hm)⟩⟩,h2,h3,h4⟩
end Att
namespace L2
open PySem PySem.Spec PyProof.Rows
theorem vals_ints:∀ {vs:List Value} {ns:List Int},IntsAre vs ns->Vals (ns.map V.int) vs
 | _,_,.nil=>.nil
 | _,_,.cons n t h=>.cons ⟨t,rfl⟩ (vals_ints h)
noncomputable def Only (H:Hp):Prop:=∀ b,H b=none\/∃ o xs,H b=some (.frz o (.lst xs))
theorem law_call {P:Program} {w:World} {K:PySem.W.Frag} {mg mb:Str->Option Value} {CX:CXT} {k:Nat} {fa a:Addr} {fd:FuncData} {x:Str} {sp:Sp} {s₁:Shared} {vs:List Value} {ns:List Int} (KX:K.In s₁.heap) (hns:s₁.heap.Ns mainGlobals mg) (hb:s₁.heap.Ns builtinsNs mb) (hbb:∀ x:Str,x ≠ "__name__" -> mb x=bootBuiltins x) (hlim:s₁.heap.NoLimit) (hg:s₁.gens=#[]) (ha:s₁.heap.get? a=some { cls:=.type "list",data:=.seq vs.toArray }) (hi:IntsAre vs ns) (hl:ns.length<=sizeLine) (hr:Room k callerA) (F:∀ base:Heap,K.In base->base.Ns mainGlobals mg->FnOk P w K mg base CX k fa fd [x] sp) (hbind:∀ (s:Shared) (u:Value),BindsTo s fd ⟨[u],[]⟩ [(x,u)]) (hsp:∀ H:Hp,Only H->SqL K H a (ns.map V.int)->sp [.ref a] H (fun v _=>v=.bl true) fun _ _ _=>False) (hCX:∀ H e s',CX [] H s₁ (fun _ _ _=>False) e s'->False):codeAny (model P w) callerA (.call (.ref fa) ⟨[.ref a],[]⟩) (fun r s'=>r=.ok (.ret (.bool true))/\OldK s₁.heap s'.heap/\s'.os=s₁.os/\AllBare s'.gens) s₁:=by
  have rv:=vals_ints hi
  have lenV:=hi.length
  have core : ∀ H : Hp, Only H -> SqL K H a (ns.map V.int) -> HOk P w H s₁.heap -> (∀ b, H b ≠ none -> b = a) -> (H a ≠ none -> K.lookup a = none) ->
      codeAny (model P w) callerA (.call (.ref fa) ⟨[.ref a],[]⟩) (fun r s'=>r=.ok (.ret (.bool true))/\OldK s₁.heap s'.heap/\s'.os=s₁.os/\AllBare s'.gens) s₁:=by
    intro H hO hS hok hA hK
    have base_of:∀ {b:Addr} {o:Obj},s₁.heap.get? b=some o->H b=none->(hidT s₁.heap H).get? b=some o:=fun e n=>hidT_get e n
    have noA:∀ {b:Addr} {o:Obj} {es:Array DictEntry} {ep:Nat},s₁.heap.get? b=some o->o.data=.dict es ep->H b=none:=fun {b o es ep} e d=>by
      cases q:H b with
      | none=>rfl
      | some u =>
        have e':b=a:=hA b (by rw [q];simp)
        subst e'
        rw [ha] at e;cases e
        have d':Data.seq vs.toArray _=Data.dict es ep:=d
        cases d'
    have nsK:∀ {b:Addr} {m:Str->Option Value},s₁.heap.Ns b m->(hidT s₁.heap H).Ns b m:=fun {b m} ⟨o,es,ep,e,d,r⟩=>⟨o,es,ep,base_of e (noA e d),d,r⟩
    have hKb:K.In (hidT s₁.heap H):=fun b o e=>base_of (KX b o e) (by
      cases q:H b with
      | none=>rfl
      | some u =>
        have e':b=a:=hA b (by rw [q];simp)
        subst e'
        rw [hK (by rw [q];simp)] at e;cases e)
    have hM:Mod K mg (hidT s₁.heap H):=⟨hKb,nsK hns,⟨mb,nsK hb,hbb⟩,let ⟨mc,h1,h2⟩:=hlim;⟨mc,nsK h1,h2⟩⟩
    have e0:Env0 P w K mg (hidT s₁.heap H) callerA [] s₁ H:=⟨rfl,hM,fun b o e=>of_hidT e,zqc0 (hidT_size _ _),trivial,fun b hb=>absurd (show b∈([]:List Addr) from hb) (by simp),hok,.of_eq hg⟩
    refine zqca ((F _ hKb (nsK hns)).run callerA [] s₁ H ⟨[.ref a],[]⟩ [.ref a] [.ref a] _ _ hr e0 (hbind s₁ (.ref a)) (.cons rfl .nil) (hsp H hO hS)) fun r s' h=>?_
    cases r with
    | error e=>exact (hCX H e s' h).elim
    | ok fl =>
      cases fl with
      | next=>exact False.elim h
      | brk=>exact False.elim h
      | cont=>exact False.elim h
      | ret u =>
        obtain ⟨v,H',os,bare,un,hok',r',q⟩:=h
        have q':v=.bl true:=q
        subst q'
        obtain rfl:u=Value.bool true:=r'
        refine ⟨rfl,OldK.of_keep fun b o e=>?_,os,bare⟩
        cases q:H b with
        | none=>exact un.keep b o e q (by intro z;exact absurd (show b∈([]:List Addr) from z) (by simp)) (by simp)
        | some u =>
          rcases hO b with z | ⟨ob,xs,z⟩
          · rw [q] at z;cases z
          · have z2:=un.frzs b ob _ z
            obtain ⟨e1,_⟩:=hok b _ z
            obtain ⟨e2,_⟩:=hok' b _ z2
            rw [e] at e1;cases e1
            exact e2
  cases hk:K.lookup a with
  | some o =>
    have e:=KX a o hk
    rw [ha] at e
    cases e
    refine core (fun _=>none) (fun _=>.inl rfl) (.inr ⟨_,vs.toArray,_,hk,rfl,rfl,rfl,by rw [zqaj,lenV];exact hl,by simpa using rv⟩) (fun b u z=>by have z':(none:Option HO)=some u:=z;cases z') (fun b z=>absurd rfl z) fun z=>absurd rfl z
  | none =>
    refine core (fun b=>if b=a then some (.frz { cls:=.type "list",data:=.seq vs.toArray } (.lst (ns.map V.int))) else none) (fun b=>?_) (.inl (.inr ⟨{ cls:=.type "list",data:=.seq vs.toArray },zqav rfl⟩)) (fun b u z=>?_) (fun b z=>?_) fun _=>hk
    · by_cases hb:b=a
      · exact .inr ⟨_,_,zqav hb⟩
      · exact .inl (zqax hb)
    · by_cases hb:b=a
      · have z':=(zqav hb).symm.trans z
        cases z'
        subst hb
        exact ⟨ha,by rw [zqaz];exact hl,vs,_,rv,ha⟩
      · have z':=(zqax hb).symm.trans z
        cases z'
    · by_cases hb:b=a
      · exact hb
      · exact absurd (zqax hb) z
theorem walk_of {l : PySem.W.OpenLaw} {n k : Nat} {q : Program} {loose : List Str} {XP : (Str -> Option Value) -> Heap -> Prop} {YP : World -> Heap -> Prop} {d : DefRec} {K : Params -> PySem.W.Frag} {CX : World -> CXT} {sp : World -> Sp} {x : Str}
    (hn:l.most=some n) (hn2:n<=sizeLine) (hdf:d.params.defaults=[]) (hr:Room k callerA)
    (hY:∀ (w:World) (h:Heap),YP w h->(K w.params).In h)
    (F:∀ (w:World) (mg:Str->Option Value) (fa:Addr) (h:Heap),(K w.params).In h->h.Ns mainGlobals mg->mg d.name=some (.ref fa) ->
      ∃ fd:FuncData,(∀ (s:Shared) (u:Value),BindsTo s fd ⟨[u],[]⟩ [(x,u)]) /\
        ∀ base:Heap,(K w.params).In base->base.Ns mainGlobals mg->FnOk l.prog w (K w.params) mg base (CX w) k fa fd [x] (sp w))
    (hsp:∀ (w:World) (H:Hp) (a:Addr) (ns:List Int),ns.length<=n->Only H->SqL (K w.params) H a (ns.map V.int)->sp w [.ref a] H (fun v _=>v=.bl true) fun _ _ _=>False)
    (hCX:∀ (w:World) (H:Hp) (s:Shared) (e:Value) (s':Shared),CX w [] H s (fun _ _ _=>False) e s'->False) :
    PySem.W.WalkO q loose XP YP l.row.toRowW d [] (fun f vs=>PySem.call f vs):=by
  refine Att.attach_call hn hdf fun w s₀ s₁ mg mb fa o pm cd doc a vs ns G Y ho hd hcd hmg hobj hints hlen hg=>?_
  have KX:=hY w _ Y
  obtain ⟨fd,hb,hF⟩:=F w mg fa _ KX G.T.g hmg
  exact law_call KX G.T.g G.T.b G.T.builtins G.T.nolimit hg hobj hints (zqat hlen hn2) hr hF hb (fun H hO hS=>hsp w H a ns hlen hO hS) fun H e s'=>hCX w H s₁ e s'
abbrev CX0:CXT:=fun _ _ _ _ _ _=>False
abbrev E0:XK:=fun _ _ _=>False
theorem pass0 {X:Cx}:Passes CX0 X E0:=fun _ _ _ _ _ _ _ h=>h.elim
structure Fun (K:PySem.W.Frag) (x qual:Str) (st:Stmt) (f:Addr) (fd:FuncData):Prop where
 ex:∃ (oc:Value) (od:Option Addr) (kV doc pm:Value) (an:Option Addr) (cdv ct:Value) (osl:Array (Option Value)),
  fd=PySem.W.fnOf x qual (defArgs st) (defBody st) (defScope st) .none kV doc pm an cdv ct/\K.lookup f=some ⟨oc,od,.func fd,osl⟩/\PySem.W.codeIn K cdv qual=true
 kp:PySem.W.keepIn K (.ref f)=true
section
variable {P:Program} {w:World} {K:PySem.W.Frag} {mg:Str->Option Value} {base:Heap}
theorem Fun.ok {x qual : Str} {st : Stmt} {f : Addr} {fd : FuncData} {N ps : List Str} {k : Nat} {sp : Sp} (F : Fun K x qual st f fd) (S : FnScope N ps (defScope st)) (len : ∀ vs H Q E, sp vs H Q E -> vs.length = ps.length)
    (hbody:∀ (cdv:Value) (A:Around) (outer:List Env) (s:Shared) (H:Hp) (vs:List V) (Q:VK) (E:XK),Room k (A.deeper (envOfC qual (defScope st) s.heap.objs.size f cdv))->sp vs H Q E ->
      ∃ t,PSs (cxOf CX0 P w K mg base N qual (defScope st) f cdv A outer s H E).nox (defBody st) t/\t { nx:=fun _ H'=>Q .non H',rt:=Q } (start N vs) H):FnOk P w K mg base CX0 (k+1) f fd ps sp:=by
  obtain ⟨oc,od,kV,doc,pm,an,cdv,ct,osl,rfl,lk,hcd⟩:=F.ex
  refine fn_of lk hcd S len fun A outer s H vs Q E hr hsp=>?_
  obtain ⟨t,h,q⟩:=hbody cdv A outer s H vs Q E hr hsp
  exact ⟨t,h.nox,q⟩
theorem fun_mk {x qual:Str} {st:Stmt} {f:Addr} {oc:Value} {od an:Option Addr} {osl:Array (Option Value)} {kV doc pm cdv ct:Value} (l:K.lookup f=some ⟨oc,od,.func (PySem.W.fnOf x qual (defArgs st) (defBody st) (defScope st) .none kV doc pm an cdv ct),osl⟩) (c:PySem.W.codeIn K cdv qual=true) (k:PySem.W.keepIn K (.ref f)=true):Fun K x qual st f (PySem.W.fnOf x qual (defArgs st) (defBody st) (defScope st) .none kV doc pm an cdv ct):=⟨⟨oc,od,kV,doc,pm,an,cdv,ct,osl,rfl,l,c⟩,k⟩
end
section
variable {X:Cx}
theorem pv (i:Nat) {x:Str} {pos:Pos} (hN:X.N[i]?=some x:=by rfl) (hv:Vis X.env.scope x:=by first | exact Or.inl rfl | exact Or.inr (Or.inl rfl) | exact Or.inr (Or.inr rfl)) (hd:(x == ("__debug__" : Str))=false:=by decide) (hcd:(x == ("__classdict__" : Str))=false:=by decide):PE X (.Name x pos) (tVar i):=pe_var hN hv hd hcd
end
end L2
end
section
namespace L2
open PySem PySem.Spec PyProof.Rows
section
variable {prog:Program} {w:World} {A:Around} {R:Result->Shared->Prop} {s:Shared}
theorem compLoop_gen {elt target iter : Expr} {ifs : List Expr} {scope : Scope} {pos : Pos} {it acc : Value} {env : Env} (I : Nat -> Shared -> Prop)
    (turn:∀ n s,I n s->wpAny (model prog w) A (pyNext it) (fun r s₁=>match r with
      | none=>R (.ok .next) s₁
      | some v => wpAny (model prog w) A (letOwnedTupleGo target it v) (fun _ s₁' => wpAny (model prog w) A (assign target env v) (fun _ s₂ =>
          wpAny (model prog w) A (forIn ifs true fun c r=>if r=true then do let ok <- isTrue c env (eval c env);pure (ForInStep.yield ok) else pure (ForInStep.yield r)) (fun ok s₃ =>
            if ok=true then wpAny (model prog w) A (eval elt env) (fun x s₄ =>
              wpAny (model prog w) A (call (.builtin "list.append") [acc,x]) (fun _ s₅=>∃ m,m < n/\I m s₅) (fun _ _=>False) s₄) (fun _ _=>False) s₃
            else ∃ m,m < n/\I m s₃) (fun _ _=>False) s₂) (fun _ _=>False) s₁') (fun _ _=>False) s₁) (fun _ _=>False) s)
    (n:Nat) (h:I n s):codeAny (model prog w) A (.compLoop (.ListComp elt [⟨target,iter,ifs,0⟩] scope pos) 0 it acc env) R s:=by
  refine codeAny_loop rfl I (fun n s hI=>?_) n h
  show wpAny _ A ((compTurn (.ListComp elt [⟨target,iter,ifs,0⟩] scope pos) 0 it acc env).onRaise (fun x=>do noteFrame x env;theTreesLotGoes x)) _ _ s
  refine wpAny_noted ?_
  rw [compTurn_list]
  refine zqad (zqcr (zqad (zqbl (turn n s hI) (fun r s₁ h₁=>?_) fun _ _ h'=>h'.elim)))
  cases r with
  | none=>exact zqas h₁
  | some v =>
    refine zqad (zqbl h₁ (fun _ s₁' h₁'=>?_) fun _ _ h'=>h'.elim)
    refine zqad (zqbl h₁' (fun _ s₂ h₂=>zqad (zqbl h₂ (fun ok s₃ h₃=>?_) fun _ _ h'=>h'.elim)) fun _ _ h'=>h'.elim)
    cases ok with
    | false=>exact zqas ⟨rfl,h₃⟩
    | true =>
      exact zqad (zqad (zqbl h₃ (fun x s₄ h₄=>zqad (zqbl h₄ (fun _ s₅ h₅=>zqas (zqas ⟨rfl,h₅⟩)) fun _ _ h'=>h'.elim)) fun _ _ h'=>h'.elim))
end
theorem cellsFrom_other {x:Str}:∀ (names:List (Str×NameKind)) (n:Nat) (acc:List (Str×Addr)),(x,NameKind.cell)∉names->(cellsFrom n names acc).lookup x=acc.lookup x
 | [],_,_,_=>rfl
 | (y,k)::r,n,acc,h=>by
  unfold cellsFrom
  split
  ·rename_i hk
   have hk:k=.cell:=eq_of_beq hk
   subst hk
   rw [cellsFrom_other r (n+1) _ (fun z=>h (zqai _ z)),zqac]
   have:(x == y)=false:=zqb2.mpr fun z=>h (by subst z;exact zqar)
   rw [this]
  ·exact cellsFrom_other r n acc fun z=>h (zqai _ z)
theorem cellsFrom_low {x:Str} {c:Addr}:∀ (names:List (Str×NameKind)) (n:Nat) (acc:List (Str×Addr)),(x,NameKind.cell)∈names->(cellsFrom n names acc).lookup x=some c->n<=c
 | [],_,_,h,_=>by cases h
 | (y,k)::r,n,acc,h,e=>by
  unfold cellsFrom at e
  split at e
  ·by_cases hr:(x,NameKind.cell)∈r
   ·exact zqb9 (cellsFrom_low r (n+1) _ hr e)
   ·rw [cellsFrom_other r (n+1) _ hr,zqac] at e
    have:x=y:=by
     rcases zqaq.mp h with z | z
     ·exact (Prod.mk.inj z).1
     ·exact absurd z hr
    subst this
    simp at e
    exact zqc0 e
  ·rename_i hk
   rcases zqaq.mp h with z | z
   ·exact absurd (by rw [<- (Prod.mk.inj z).2];rfl) hk
   ·exact cellsFrom_low r n acc z e
theorem cellsFrom_has {x:Str}:∀ (names:List (Str×NameKind)) (n:Nat) (acc:List (Str×Addr)),(x,NameKind.cell)∈names->∃ c,(cellsFrom n names acc).lookup x=some c
 | [],_,_,h=>by cases h
 | (y,k)::r,n,acc,h=>by
  unfold cellsFrom
  split
  ·by_cases hr:(x,NameKind.cell)∈r
   ·exact cellsFrom_has r (n+1) _ hr
   ·rw [cellsFrom_other r (n+1) _ hr,zqac]
    have:x=y:=by
     rcases zqaq.mp h with z | z
     ·exact (Prod.mk.inj z).1
     ·exact absurd z hr
    subst this
    simp
  ·rename_i hk
   rcases zqaq.mp h with z | z
   ·exact absurd (by rw [<- (Prod.mk.inj z).2];rfl) hk
   ·exact cellsFrom_has r n acc z
theorem cellsFrom_inj:∀ (names:List (Str×NameKind)) (n:Nat) (acc:List (Str×Addr)),(∀ x c,acc.lookup x=some c->c < n)->(∀ x y c,acc.lookup x=some c->acc.lookup y=some c->x=y)->∀ x y c,(cellsFrom n names acc).lookup x=some c->(cellsFrom n names acc).lookup y=some c->x=y
 | [],_,_,_,h=>h
 | (z,k)::r,n,acc,hb,h=>by
  unfold cellsFrom
  split
  ·refine cellsFrom_inj r (n+1) _ (fun x c e=>?_) (fun x y c e1 e2=>?_)
   ·rw [zqac] at e
    split at e
    ·cases e;exact zqcu _
    ·exact Nat.lt_succ_of_lt (hb x c e)
   ·rw [zqac] at e1 e2
    split at e1
    ·rename_i hx
     cases e1
     split at e2
     ·rename_i hy
      rw [eq_of_beq hx,eq_of_beq hy]
     ·exact absurd (hb y _ e2) (zqbk _)
    ·split at e2
     ·cases e2
      exact absurd (hb x _ e1) (zqbk _)
     ·exact h x y c e1 e2
  ·exact cellsFrom_inj r n acc hb h
theorem cellsFrom_cell {x:Str} {c:Addr}:∀ (names:List (Str×NameKind)) (h:Heap) (acc:List (Str×Addr)),(cellsFrom h.objs.size names acc).lookup x=some c->acc.lookup x=some c\/(h.objs.size<=c/\(pushCells h names).IsCell c none)
 | [],_,_,e=>.inl e
 | (z,k)::r,h,acc,e=>by
  unfold cellsFrom at e
  unfold pushCells
  split at e
  ·rename_i hk
   rw [zqav hk]
   have e':(cellsFrom (h.push { cls:=.type "cell",data:=.cell none }).objs.size r ((z,h.objs.size)::acc)).lookup x=some c:=by rw [zqcc];exact e
   rcases cellsFrom_cell r (h.push { cls:=.type "cell",data:=.cell none }) _ e' with q | ⟨q1,q2⟩
   ·rw [zqac] at q
    split at q
    ·cases q
     exact .inr ⟨zqae _,_,pushCells_keeps _ _ _ _ (zqa7 _ rfl),rfl⟩
    ·exact .inl q
   ·rw [zqcc] at q1
    exact .inr ⟨zqb9 q1,q2⟩
  ·rename_i hk
   rw [zqax hk]
   exact cellsFrom_cell r h acc e
theorem newEnv_cells {M : Model} {A : Around} {E : Value -> Shared -> Prop} {s : Shared} {scope : Scope} {globals : Addr} {cl : List (Str × Addr)} {qual : Str} {outer : Env} {Q : Env -> Shared -> Prop}
    (hQ:Q { scope:=scope,locals:=s.heap.objs.size,globals:=globals,cells:=cellsFrom (s.heap.objs.size+1) scope.names cl,qual:=qual,func:=none,code:=outer.code,frame:=outer.frame,builtins:=outer.builtins }
      { s with heap:=pushCells (s.heap.push { cls:=.type "dict",data:=.dict #[] }) scope.names }) :
    wpAny M A (newFunctionEnv scope globals cl [] qual none .none (some outer)) Q E s:=by
  simp only [newFunctionEnv,Option.isSome_some,zqcf]
  refine zqad (wpAny_alloc ?_)
  refine zqad (wpAny_layCells _ (fun name kind cells=>by cases hkc:kind == NameKind.cell <;> simp [hkc]) _ _ _ _ ?_)
  rw [show ({ s with heap:=s.heap.push { cls:=.type "dict",data:=.dict #[] } }:Shared).heap.objs.size=s.heap.objs.size+1 from zqcc ..]
  rw [List.forIn_nil]
  exact zqad (zqas (zqas hQ))
noncomputable def Cx.block (X:Cx) (scope:Scope) (cl:List (Str×Addr)) (C:Addr) (N':List Str) (s:Shared) (H:Hp) (fp:List Addr) (pn:List (Addr×Obj)):Cx :=
 { X with N:=N',s₀:=s,H₀:=H,env:=compEnvC scope (cellsFrom (C+1) scope.names cl) C X.env,outer:=X.stack,ex:=fp,fn:=fun x=>scope.names.lookup x == some .cell,pn:=pn,xe:=fun _ _=>False }
structure Clos (X:Cx) (scope:Scope) (cl:List (Str×Addr)):Prop where
 is:closureFor scope X.env=pure cl
 sub:∀ x c,cl.lookup x=some c->X.env.cells.lookup x=some c
 has:∀ x,scope.names.lookup x=some .free->∃ c,cl.lookup x=some c
theorem lookup_relabel {env : Env} : ∀ {names : List (Str × NameKind)} {x : Str} {k : NameKind}, names.lookup x = some k ->
    (names.map fun (n,k)=>if (k == NameKind.free && env.scope.kind == .function && env.kindOf n == some .cell) then (n,NameKind.cell) else (n,k)).lookup x =
      some (if (k == NameKind.free && env.scope.kind == .function && env.kindOf x == some .cell) then .cell else k)
  | [],_,_,h=>by simp at h
  | (n,k')::r,x,k,h=>by
    have ih:=@lookup_relabel env r x k
    show List.lookup x ((if (k' == NameKind.free && env.scope.kind == .function && env.kindOf n == some .cell)=true then (n,NameKind.cell) else (n,k'))::_)=_
    cases hx:x == n with
    | true =>
      simp only [zqac,hx] at h
      cases h
      have e:x=n:=by simpa using hx
      subst e
      split <;> simp [zqac]
    | false =>
      simp only [zqac,hx] at h
      by_cases hc:(k' == NameKind.free && env.scope.kind == .function && env.kindOf n == some .cell)=true
      · rw [zqav hc];simp only [zqac,hx];exact ih h
      · rw [zqax hc];simp only [zqac,hx];exact ih h
theorem lookup_relabel_inv {env : Env} : ∀ {names : List (Str × NameKind)} {x : Str} {k : NameKind},
    (names.map fun (n,k)=>if (k == NameKind.free && env.scope.kind == .function && env.kindOf n == some .cell) then (n,NameKind.cell) else (n,k)).lookup x=some k ->
      ∃ k',names.lookup x=some k'/\k=(if (k' == NameKind.free && env.scope.kind == .function && env.kindOf x == some .cell) then .cell else k')
  | names,x,k,h=>by
    cases q:names.lookup x with
    | some k' =>
      have:=lookup_relabel (env:=env) q
      rw [this] at h
      exact ⟨k',rfl,(zqag h).symm⟩
    | none =>
      exfalso
      induction names with
      | nil=>simp at h
      | cons a r ih =>
        obtain ⟨n,k'⟩:=a
        cases hx:x == n with
        | true=>simp [zqac,hx] at q
        | false =>
          simp only [zqac,hx] at q
          have h':List.lookup x ((if (k' == NameKind.free && env.scope.kind == .function && env.kindOf n == some .cell)=true then (n,NameKind.cell) else (n,k'))::(r.map fun (n,k)=>if (k == NameKind.free && env.scope.kind == .function && env.kindOf n == some .cell) then (n,NameKind.cell) else (n,k)))=some k:=h
          by_cases hc:(k' == NameKind.free && env.scope.kind == .function && env.kindOf n == some .cell)=true
          · rw [zqav hc] at h';simp only [zqac,hx] at h';exact ih h' q
          · rw [zqax hc] at h';simp only [zqac,hx] at h';exact ih h' q
noncomputable def capσ (cap:List (Option Nat)) (σ:St):St:=cap.map fun o=>o.bind fun j=>(σ[j]?).join
structure CapOk (X:Cx) (scope:Scope) (N':List Str) (cap:List (Option Nat)):Prop where
 len:cap.length=N'.length
 out:∀ (i j:Nat) (x:Str),cap[i]?=some (some j)->N'[i]?=some x->X.N[j]?=some x/\scope.names.lookup x=some .free/\(X.env.kindOf x=some .cell\/X.env.kindOf x=some .free)
section
variable {X:Cx} {pins:List (Addr×Obj)} {σ:St} {H:Hp} {s:Shared} {scope:Scope} {cl:List (Str×Addr)} {N':List Str} {cap:List (Option Nat)} {fp:List Addr}
theorem block_start {h1:Heap} (I:Inv X pins σ H s) (hkind:scope.kind=.function) (hcell:∀ y∈scope.names,y.2=.cell->scope.names.lookup y.1=some .cell) (cs:Clos X scope cl) (co:CapOk X scope N' cap) (hf:∀ b∈fp,FpOk X pins H b) (ho:∀ b∈fp,b < s.heap.objs.size) (hns:h1.Ns s.heap.objs.size (fun _=>none)) (hk:∀ b u,s.heap.get? b=some u->h1.get? b=some u) (hnew:∀ x c,(cellsFrom (s.heap.objs.size+1) scope.names cl).lookup x=some c->cl.lookup x=some c\/(s.heap.objs.size+1<=c/\h1.IsCell c none)) (tk:Nat):Inv (X.block scope cl s.heap.objs.size N' s H fp []) [] (capσ cap σ) H { s with heap:=h1,toks:=tk }:=by
 have I1:Inv X pins σ H { s with heap:=h1,toks:=tk }:=I.kept hk
 have cab:∀ x c,cl.lookup x=some c->c < s.heap.objs.size:=fun x c e=>by
  obtain ⟨v,q⟩:=I.cell x c (cs.sub x c e);exact q.lt
 have fr:H s.heap.objs.size=none:=I.hok.fresh (zqae _)
 have same:∀ x,scope.names.lookup x=some .free->(cellsFrom (s.heap.objs.size+1) scope.names cl).lookup x=cl.lookup x:=fun x hx =>
  cellsFrom_other _ _ _ fun z=>by have:=hcell _ z rfl;rw [hx] at this;cases this
 refine ⟨⟨I.ok.mod,hkind,I.ok.glob,I.ok.blt,zqae _,cellsFrom_inj _ _ _ (fun x c e=>Nat.lt_succ_of_lt (cab x c e)) (fun x y c a b=>I.ok.inj x y c (cs.sub _ _ a) (cs.sub _ _ b)),fun x hx=>?_,fun x c z e=>?_,I.ok.hd,I.ok.frames,.inl rfl,fun b hb=>⟨?_,fun x c e=>?_⟩,fun b o e=>I.bs b o e,
  zqat I.ok.bsz I.sz,fun b o e hb=>?_,fun b hb hb'=>?_,I.stack,I.stkFree⟩,rfl,I.bare,Un.kept hk,⟨_,hns,fun i x v e1 e2 e3=>?_⟩,fun x c e=>?_,fr,fun x c e=>?_,fun p hp=>?_,I.hok.kept hk,?_⟩
 ·have hx:(relabel scope X.env).names.lookup x=some .cell\/(relabel scope X.env).names.lookup x=some .free:=hx
  have key:∃ k',scope.names.lookup x=some k'/\(k'=.free\/k'=.cell):=by
   have go:∀ k,(k=.cell\/k=.free)->(relabel scope X.env).names.lookup x=some k->∃ k',scope.names.lookup x=some k'/\(k'=.free\/k'=.cell):=by
    intro k hk hx
    obtain ⟨k',e,ek⟩:=lookup_relabel_inv hx
    refine ⟨k',e,?_⟩
    by_cases z:k'=.free
    ·exact .inl z
    ·rw [zqax (by cases k' <;> first | exact absurd rfl z | simp)] at ek
     subst ek
     rcases hk with hk | hk
     ·exact .inr hk
     ·exact .inl hk
   rcases hx with hx | hx
   ·exact go _ (.inl rfl) hx
   ·exact go _ (.inr rfl) hx
  obtain ⟨k',e,hk'⟩:=key
  show ∃ c,(cellsFrom (s.heap.objs.size+1) scope.names cl).lookup x=some c
  rcases hk' with z | z
  ·subst z
   rw [same x e]
   exact cs.has x e
  ·subst z
   exact cellsFrom_has _ _ _ (zqam e)
 ·have z:(scope.names.lookup x == some .cell)=true:=z
  have z:scope.names.lookup x=some .cell:=eq_of_beq z
  exact zqb9 (cellsFrom_low _ _ _ (zqam z) e)
 ·exact zqa4 (ho b hb)
 ·rcases hnew x c e with q | ⟨q,_⟩
  ·exact (hf b hb).2.2.2.2.1 x c (cs.sub x c q)
  ·have hb1:=ho b hb
   intro z
   rw [z] at q
   exact absurd hb1 (Nat.not_lt_of_le (zqb9 q))
 ·rcases (hf b hb).2.2.2.1 with z | z
  ·exact I.ok.noex b o e z
  ·have h1:=zqaf e
   have h2:=I.ok.bsz
   exact absurd (zqao h1 (zqat h2 z)) (zqbk _)
 ·rcases zqaq.mp (I.stkSub b hb') with z | z
  ·exact (hf b hb).2.1 z
  ·exact (hf b hb).2.2.1 z
 ·have e1:N'[i]?=some x:=e1
  unfold capσ at e2
  rw [zqbg] at e2
  cases q:cap[i]? with
  | none=>rw [q] at e2;cases e2
  | some oj =>
   rw [q] at e2
   cases oj with
   | none=>cases e2
   | some j =>
    have e2':(σ[j]?).join=some v:=zqag e2
    have e2'':σ[j]?=some (some v):=by
     cases r:σ[j]? with
     | none=>rw [r] at e2';cases e2'
     | some ov=>rw [r] at e2';cases ov with
      | none=>cases e2'
      | some z=>cases e2';rfl
    obtain ⟨o1,o2,o3⟩:=co.out i j x q e1
    obtain ⟨m,hn,hl⟩:=I1.loc
    obtain ⟨u,r,l⟩:=hl j x v o1 e2'' (o3.elim (fun z=>.inr (.inl z)) fun z=>.inr (.inr z))
    refine ⟨u,r,.inr ⟨?_,?_⟩⟩
    ·show (relabel scope X.env).names.lookup x=some .cell\/(relabel scope X.env).names.lookup x=some .free
     rw [show (relabel scope X.env).names.lookup x=_ from lookup_relabel o2]
     split
     ·exact .inl rfl
     ·exact .inr rfl
    ·obtain ⟨c,hc⟩:=cs.has x o2
     have hc':=cs.sub x c hc
     rcases l with ⟨hk',hm⟩|⟨_,c2,hc2,hcell2⟩
     ·exfalso
      rw [hk'] at o3
      rcases o3 with o3 | o3 <;> cases o3
     ·rw [hc'] at hc2;cases hc2
      exact ⟨c,(same x o2).trans hc,hcell2⟩
 ·rcases hnew x c e with q | ⟨_,q⟩
  ·exact I1.cell x c (cs.sub x c q)
  ·exact ⟨none,q⟩
 ·rcases hnew x c e with q | ⟨q,_⟩
  ·exact I1.freeC x c (cs.sub x c q)
  ·exact I.hok.fresh (zqb9 q)
 ·exact absurd (show p∈([]:List (Addr×Obj)) from hp) (by simp)
 ·show (capσ cap σ).length=N'.length
  unfold capσ;rw [zqaz];exact co.len
end
noncomputable def tIfs:Option TT->TT
 | none=>fun _ H Q=>Q true H
 | some t=>t
def tCompL (cap:List (Option Nat)) (g:TG) (tc:Option TT) (te:TE) (σ:St) (J:It) (H1:Hp) (Q:V->Hp->Prop):Prop :=
 ∀ D,H1 D=none->∃ W:Nat->Nat->St->Hp->List V->Prop,(∃ m,W 0 m (capσ cap σ) (upd H1 D (.lst [])) []) /\
  ∀ i m τ H ys,W i m τ H ys->H D=some (.lst ys)/\((J.stop i H/\Q (.ref D) H) \/
   (J.go i H/\ys.length < sizeLine/\∀ x H',J.yld i H x H'->g x τ H' fun τ2 H2=>tIfs tc τ2 H2 fun b H3 =>
    if b=true then te τ2 H3 fun v H4=>H4 D=some (.lst ys)/\∃ m',m' < m/\W (i+1) m' τ2 (upd H4 D (.lst (ys++[v]))) (ys++[v])
    else ∃ m',m' < m/\W (i+1) m' τ2 H3 ys))
def tComp (cap:List (Option Nat)) (wi:TI) (g:TG) (tc:Option TT) (te:TE):TE:=fun σ H Q=>wi σ H fun J H1=>tCompL cap g tc te σ J H1 Q
def IfsOk (X:Cx) (scope:Scope) (N':List Str) (cl:List (Str×Addr)) (ifs:List Expr):Option TT->Prop
 | none=>ifs=[]
 | some t=>∃ c,ifs=[c]/\∀ C s H fp,PT (X.block scope cl C N' s H fp []) c t
structure CompOk (X:Cx) (scope:Scope) (N':List Str) (cap:List (Option Nat)) (cl:List (Str×Addr)) (tg elt:Expr) (ifs:List Expr) (g:TG) (tc:Option TT) (te:TE):Prop where
 kind:scope.kind=.function
 nocell:∀ y∈scope.names,y.2=.cell->scope.names.lookup y.1=some .cell
 names:∀ y∈scope.names,y.2=.local->scope.names.lookup y.1=some .local
 clos:Clos X scope cl
 capo:CapOk X scope N' cap
 tg:∀ C s H fp,PG (X.block scope cl C N' s H fp []) tg g
 ifs:IfsOk X scope N' cl ifs tc
 elt:∀ C s H fp,PE (X.block scope cl C N' s H fp []) elt te
section
variable {X:Cx} {scope:Scope} {N':List Str} {cap:List (Option Nat)} {cl:List (Str×Addr)} {tg elt iter:Expr} {ifs:List Expr} {g:TG} {tc:Option TT} {te:TE} {pos:Pos}
theorem comp_run {pins : List (Addr × Obj)} {s2 : Shared} {σ : St} {H2 : Hp} {it : Addr} {fp : List Addr} {tn : Nat -> Heap -> Prop} {J : It} {E : Value -> Shared -> Prop} {Q : V -> Hp -> Prop} {RR : Value -> Addr -> Result -> Shared -> Prop}
    (hc:X.calm=true) (ck:CompOk X scope N' cap cl tg elt ifs g tc te) (I2:Inv X pins σ H2 s2) (T:Turn X.prog X.w X.K tg J fp it tn) (st2:tn 0 s2.heap) (f2:∀ b∈fp,FpOk X pins H2 b) (h:tCompL cap g tc te σ J H2 Q)
    (hRR:∀ (D C:Addr) (H':Hp) (s':Shared) (m:Str->Option Value),Inv X pins σ H' s'->s'.heap.Ns C m->H' C=none->X.s₀.heap.objs.size<=C->C≠X.env.locals->C∉X.fs->(∀ x c,X.env.cells.lookup x=some c->c≠C)->(∀ p∈X.pn++pins,p.1≠C)->Q (.ref D) H'->RR (.ref D) C (.ok .next) s') :
    wpAny (model X.prog X.w) X.A (newList []) (fun acc s₃=>wpAny (model X.prog X.w) X.A (newFunctionEnv scope X.env.globals cl [] X.env.qual none .none (some X.env)) (fun cenv s₄ =>
      codeAny (model X.prog X.w) X.A (.compStart (.ListComp elt [⟨tg,iter,ifs,0⟩] scope pos) 0 (.ref it) acc { cenv with scope:=relabel scope X.env }) (RR acc cenv.locals) s₄) E s₃) E s2:=by
  refine wpAny_newObj_type ?_
  generalize hH:s2.heap.push { cls:=.type "list",dict:=none,data:=.seq ([]:List Value).toArray }=hh
  have hD:H2 s2.heap.objs.size=none:=I2.hok.fresh (zqae _)
  have k3:∀ b u,s2.heap.get? b=some u->hh.get? b=some u:=fun b u e=>by rw [<- hH];exact zqah _ e
  have I3:Inv X pins σ (upd H2 s2.heap.objs.size (.lst [])) { s2 with heap:=hh } :=
    I2.laid (t':=s2.toks) k3 (zqae _) ⟨Nat.zero_le _,[],0,.nil,by rw [<- hH];exact zqa7 _ rfl⟩
  have f3:∀ b∈fp,FpOk X pins (upd H2 s2.heap.objs.size (.lst [])) b:=fun b hb=>by
    obtain ⟨o,e,_⟩:=T.obj _ _ st2 b hb
    exact ⟨by rw [upd_ne (zqa4 (zqaf e))];exact (f2 b hb).1,(f2 b hb).2⟩
  have b3:∀ b∈fp,b < hh.objs.size:=fun b hb=>by
    obtain ⟨o,e,_⟩:=T.obj _ _ st2 b hb
    exact zqaf (k3 b o e)
  have st3:tn 0 hh:=T.keep _ _ _ st2 fun b hb o e=>k3 b o e
  obtain ⟨W,⟨m0,w0⟩,turn⟩:=h s2.heap.objs.size hD
  refine newEnv_cells (s:={ s2 with heap:=hh }) ?_
  have k4:∀ b u,hh.get? b=some u->(pushCells (hh.push { cls:=.type "dict",data:=.dict #[] }) scope.names).get? b=some u:=fun b u e=>pushCells_keeps _ _ b u (zqah _ e)
  have hns':(pushCells (hh.push { cls:=.type "dict",data:=.dict #[] }) scope.names).Ns hh.objs.size (fun _=>none):=(Heap.Ns.new hh (.type "dict")).keeps (pushCells_keeps _ _)
  have hnew:∀ x c,(cellsFrom (hh.objs.size+1) scope.names cl).lookup x=some c->cl.lookup x=some c\/(hh.objs.size+1<=c/\(pushCells (hh.push { cls:=.type "dict",data:=.dict #[] }) scope.names).IsCell c none):=fun x c e=>by
    have:=cellsFrom_cell (x:=x) (c:=c) scope.names (hh.push { cls:=.type "dict",data:=.dict #[] }) cl (by rw [zqcc];exact e)
    rw [zqcc] at this
    exact this
  generalize hh1:pushCells (hh.push { cls:=.type "dict",data:=.dict #[] }) scope.names=h₁ at k4 hns' hnew
  have st4:tn 0 h₁:=T.keep _ _ _ st3 fun b hb o e=>k4 b o e
  have I4:=block_start (tk:=s2.toks) I3 ck.kind ck.nocell ck.clos ck.capo f3 b3 hns' k4 hnew
  generalize hX:X.block scope cl hh.objs.size N' { s2 with heap:=hh } (upd H2 s2.heap.objs.size (.lst [])) fp []=X' at I4
  have xprog:X'.prog=X.prog:=by rw [<- hX];rfl
  have xw:X'.w=X.w:=by rw [<- hX];rfl
  have xK:X'.K=X.K:=by rw [<- hX];rfl
  have xA:X'.A=X.A:=by rw [<- hX];rfl
  have xc:X'.calm=true:=by rw [<- hX];exact hc
  have xenv:X'.env=compEnvC scope (cellsFrom (hh.objs.size+1) scope.names cl) hh.objs.size X.env:=by rw [<- hX];rfl
  have xxe:X'.xe=fun _ _=>False:=by rw [<- hX];rfl
  have xfp:∀ {H':Hp},(∀ b∈fp,H' b=none)->∀ b∈fp,FpOk X' [] H' b:=fun {H'} hn b hb=>by
    have z:=I4.ok.exf b (by rw [<- hX];exact hb)
    exact ⟨hn b hb,z.1,I4.ok.exfs b (by rw [<- hX];exact hb),.inl (by rw [<- hX];exact hb),z.2,fun p hp=>absurd (show p∈([]:List (Addr×Obj)) by rw [<- hX] at hp;exact hp) (by simp)⟩
  have ctg:=ck.tg hh.objs.size { s2 with heap:=hh } (upd H2 s2.heap.objs.size (.lst [])) fp
  have cifs:=ck.ifs
  have celt:=ck.elt hh.objs.size { s2 with heap:=hh } (upd H2 s2.heap.objs.size (.lst [])) fp
  rw [hX] at ctg celt
  have loop : ∀ s4 : Shared, Inv X' [] (capσ cap σ) (upd H2 s2.heap.objs.size (.lst [])) s4 -> tn 0 s4.heap ->
      codeAny (model X.prog X.w) X.A (.compLoop (.ListComp elt [⟨tg,iter,ifs,0⟩] scope pos) 0 (.ref it) (.ref s2.heap.objs.size) (compEnvC scope (cellsFrom (hh.objs.size+1) scope.names cl) hh.objs.size X.env)) (RR (.ref s2.heap.objs.size) hh.objs.size) s4:=by
    intro s4 I4 st4
    refine compLoop_gen (fun n s'=>∃ i τ H' ys,Inv X' [] τ H' s'/\tn i s'.heap/\(∀ b∈fp,H' b=none)/\W i n τ H' ys) ?_ m0 ⟨0,_,_,[],I4,st4,fun b hb=>(f3 b hb).1,w0⟩
    rintro n s5 ⟨i,τ,H5,ys,I5,st5,fr5,w5⟩
    obtain ⟨hl5,stop | ⟨go,hz,step⟩⟩:=turn i n τ H5 ys w5
    · have td:=T.done X' xprog xw xK xc i [] s5 τ H5 (fun _ _=>False) I5 (xfp fr5) st5 stop.1
      rw [xA] at td
      refine thn td ?_
      rintro r s6 ⟨rfl,I6⟩
      have base:=I6.base
      have os:=I6.os
      have hok:=I6.hok
      have hfree:=I6.free
      obtain ⟨m,hm,_⟩:=I6.loc
      rw [xenv] at hfree hm
      rw [<- hX] at base os hok
      refine hRR _ _ H5 s6 m (I3.call' (ch:=fp) os base hok I6.bare fun b hb=>⟨(f3 b hb).2.2.2.1,(f3 b hb).2.1,(f3 b hb).2.2.2.2.1,(f3 b hb).2.2.2.2.2⟩) hm hfree I3.sz (Nat.ne_of_gt I3.lt) (I3.nofs (zqae _)) (fun x c e z=>?_) (fun p hp z=>?_) stop.2
      · obtain ⟨v,q⟩:=I3.cell x c e
        exact absurd q.lt (by rw [z];exact zqbk _)
      · exact absurd (zqaf (I3.pin p hp).1) (by rw [z];exact zqbk _)
    · have ti:=T.item X' xprog xw xK xc i [] s5 τ H5 (fun _ _=>False) I5 (xfp fr5) st5 go
      rw [xA] at ti
      refine thn ti ?_
      rintro r s6 ⟨u,rfl,h6⟩
      refine thn h6 ?_
      rintro _ s7 ⟨x,H7,I7,r7,y7,st7,fr7⟩
      have I7':=I7.pinned (xfp fr7) (T.obj _ _ st7)
      have ga:=ctg _ s7 τ H7 x u _ I7' r7 (step x H7 y7)
      rw [xprog,xw,xA,xxe,xenv] at ga
      refine thn ga ?_
      rintro _ s8 ⟨τ8,H8,I8,q8⟩
      have fin:∀ {τ9:St} {H9:Hp} {s9:Shared} {ys9:List V},Inv X' ([]++pinsAt fp s7.heap) τ9 H9 s9->(∃ m',m' < n/\W (i+1) m' τ9 H9 ys9)->∃ m',m' < n/\∃ i τ H' ys,Inv X' [] τ H' s9/\tn i s9.heap/\(∀ b∈fp,H' b=none)/\W i m' τ H' ys:=fun {τ9 H9 s9 ys9} I9 w9=>by
        obtain ⟨m',hm,w9⟩:=w9
        refine ⟨m',hm,i+1,τ9,H9,ys9,I9.unpinned,T.keep _ _ _ st7 fun b hb o e=>(I9.pin (b,o) (zqan _ (zqan _ (mem_pinsAt hb e)))).1,fun b hb=>?_,w9⟩
        obtain ⟨o,e,d⟩:=T.obj _ _ st7 b hb
        exact (I9.pin (b,o) (zqan _ (zqan _ (mem_pinsAt hb e)))).2.1
      have rest:∀ b s9,TP X' ([]++pinsAt fp s7.heap) τ8 (fun b H3 =>
        if b=true then te τ8 H3 fun v H4=>H4 s2.heap.objs.size=some (.lst ys)/\∃ m',m' < n/\W (i+1) m' τ8 (upd H4 s2.heap.objs.size (.lst (ys++[v]))) (ys++[v])
        else ∃ m', m' < n /\ W (i + 1) m' τ8 H3 ys) b s9 -> (if b = true then wpAny (model X.prog X.w) X.A (eval elt (compEnvC scope (cellsFrom (hh.objs.size + 1) scope.names cl) hh.objs.size X.env)) (fun x s₄ =>
              wpAny (model X.prog X.w) X.A (call (.builtin "list.append") [.ref s2.heap.objs.size,x]) (fun _ s₅=>∃ m,m < n/\∃ i τ H' ys,Inv X' [] τ H' s₅/\tn i s₅.heap/\(∀ b∈fp,H' b=none)/\W i m τ H' ys) (fun _ _=>False) s₄) (fun _ _=>False) s9
            else ∃ m,m < n/\∃ i τ H' ys,Inv X' [] τ H' s9/\tn i s9.heap/\(∀ b∈fp,H' b=none)/\W i m τ H' ys):=by
        rintro b s9 ⟨H9,I9,q9⟩
        cases b with
        | false=>rw [zqax (by simp)] at q9 ⊢;exact fin I9 q9
        | true =>
          rw [zqav rfl] at q9 ⊢
          have ge:=celt _ s9 τ8 H9 _ I9 q9
          rw [xprog,xw,xA,xxe,xenv] at ge
          refine thn ge ?_
          rintro v s10 ⟨y,H10,I10,r10,l10,w10⟩
          have ap:=mt_append (X:=X') _ s10 τ8 H10 (.ref s2.heap.objs.size) [y] (.ref s2.heap.objs.size) [v] (fun _ H'=>∃ m',m' < n/\W (i+1) m' τ8 H' (ys++[y])) I10 rfl (.cons r10 .nil) ⟨_,ys,y,rfl,rfl,l10,hz,w10⟩
          rw [xprog,xw,xA,xxe] at ap
          exact thn ap fun _ s11 ⟨_,H11,I11,_,w11⟩=>fin I11 w11
      cases tc with
      | none =>
        have ei:ifs=[]:=cifs
        subst ei
        exact wpAny_tests_nil (rest true s8 ⟨H8,I8,q8⟩)
      | some t =>
        obtain ⟨c,ei,pt⟩:=cifs
        subst ei
        have pt:=pt hh.objs.size { s2 with heap:=hh } (upd H2 s2.heap.objs.size (.lst [])) fp
        rw [hX] at pt
        refine wpAny_tests_one ?_
        have gt:=pt _ s8 τ8 H8 _ I8 q8
        rw [xprog,xw,xA,xxe,xenv] at gt
        exact thn gt fun b s9 q=>rest b s9 q
  have goal4:=loop _ I4 st4
  exact codeAny_compStart_list goal4 (T.self _ 0 _ _ _ st4 goal4)
end
section
variable {X:Cx} {scope:Scope} {N':List Str} {cap:List (Option Nat)} {cl:List (Str×Addr)} {tg elt iter:Expr} {ifs:List Expr} {g:TG} {tc:Option TT} {te:TE} {wi:TI} {pos:Pos}
theorem pe_comp (hc:X.calm=true) (hi:PI X tg iter wi) (ck:CompOk X scope N' cap cl tg elt ifs g tc te) (hs:∀ x,foldedSetIterable iter X.env x=pure x:=by intro _;rfl):PE X (.ListComp elt [⟨tg,iter,ifs,0⟩] scope pos) (tComp cap wi g tc te):=by
 intro pins s σ H Q I h
 rw [eval_ListComp]
 refine wpAny_comprehension_free (use:=none) rfl hs ck.clos.is ck.kind ck.names (thn (hi pins s σ H _ I h) fun v s1 h1=>thn h1 fun itv s2 h2=>?_)
 obtain ⟨it,fp,tn,J,H2,e,I2,T,st2,f2,hC⟩:=h2
 subst e
 refine comp_run (Q:=Q) (RR:=fun acc C=>compPost (model X.prog X.w) X.A X.xe none (EP X pins σ Q) acc C) hc ck I2 T st2 f2 hC ?_
 intro D C H' s' m I' hm hfr hC1 hC2 hC3 hC4 hC5 q
 refine ⟨m,hm,fun h' hsb=>?_⟩
 exact ⟨.ref D,H',I'.turned (t':=s'.toks) (fun b o hb e=>hsb.extBut b o hb e) hfr (zqbd (zqbd hC2)) (.inr hC1) hC4 hC5,rfl,q⟩
end
end L2
end
section
namespace L2
open PySem PySem.Spec PyProof.Rows
end L2
end
section
namespace L2
open PySem PySem.Spec PyProof.Rows
end L2
end
section
namespace L2
open PySem PySem.Spec PyProof.Rows
end L2
end
section
namespace L2
open PySem PySem.Spec PyProof.Rows
open AutoSeq1 (wpAny_loadPart')
end L2
end
section
namespace L2
open PySem PySem.Spec PyProof.Rows
end L2
end
section
namespace L2
open PySem PySem.Spec PyProof.Rows
end L2
end
section
namespace L2
open PySem PySem.Spec PyProof.Rows
end L2
end
section
namespace L2
open PySem PySem.Spec PyProof.Rows
section
variable {X:Cx}
theorem op_isB:OpR X (compareOp .Is) (fun x y H Q=>∃ b c,x=.bl b/\y=.bl c/\Q (.bl (b == c)) H):=by
 intro pins s σ H x y v u Q I rx ry h
 obtain ⟨b,c,rfl,rfl,q⟩:=h
 cases rx
 cases ry
 refine wpAny_is_plain rfl (fin_bl I q ?_)
 cases b <;> cases c <;> rfl
theorem op_notB:OpR X (compareOp .IsNot) (fun x y H Q=>∃ b c,x=.bl b/\y=.bl c/\Q (.bl (!(b == c))) H):=by
 intro pins s σ H x y v u Q I rx ry h
 obtain ⟨b,c,rfl,rfl,q⟩:=h
 cases rx
 cases ry
 refine wpAny_isNot_plain rfl (fin_bl I q ?_)
 cases b <;> cases c <;> rfl
end
end L2
end
section
namespace L2
open PySem PySem.Spec PyProof.Rows
end L2
end
section
namespace L2
open PySem PySem.Spec PyProof.Rows
end L2
end
section
namespace L2
open PySem PySem.Spec PyProof.Rows
section
variable {X:Cx} {tg:Expr}
noncomputable def insI (i:Int):List Int->List Int
 | []=>[i]
 | j::js=>if i<=j then i::j::js else j::insI i js
def srtI:List Int->List Int
 | []=>[]
 | i::is=>insI i (srtI is)
end
end L2
end
section
namespace L2
open PySem PySem.Spec PyProof.Rows
end L2
end
section
namespace L2
open PySem PySem.Spec PyProof.Rows
end L2
end
section
namespace L2
open PySem PySem.Spec PyProof.Rows
end L2
end
section
namespace L2
open PySem PySem.Spec PyProof.Rows
end L2
end
section
namespace L2
open PySem PySem.Spec PyProof.Rows
end L2
end
section
namespace L2
open PySem PySem.Spec PyProof.Rows
open Builtin Builtin.ObjectAttr
structure XCls (h:Heap) (C D:Addr) (mN mD:Str->Option Value):Prop where
 cls:∃ nm q N bs sn sub ab col dd k0 k1 k2 k3 k5,h.get? C=some (excClassObj nm q C N bs (.ref D::VE) true sn sub ab col dd k0 k1 k2 k3 k5 "ValueError.__new__")/\h.Ns N mN
 par:∃ c0 dd cd sl,h.get? D=some { cls:=c0,dict:=dd,data:=.cls cd,slots:=sl }/\h.Ns cd.ns mD
 noi:mD "__init__" = none
theorem XCls.keeps {h h':Heap} {C D:Addr} {mN mD:Str->Option Value} (X:XCls h C D mN mD) (k:∀ b o,h.get? b=some o->h'.get? b=some o):XCls h' C D mN mD:=by
 obtain ⟨⟨nm,q,N,bs,sn,sub,ab,col,dd,k0,k1,k2,k3,k5,hC,hN⟩,⟨c0,de,cd,sl,hD,hM⟩,n⟩:=X
 exact ⟨⟨nm,q,N,bs,sn,sub,ab,col,dd,k0,k1,k2,k3,k5,k _ _ hC,hN.keeps k⟩,⟨c0,de,cd,sl,k _ _ hD,hM.keeps k⟩,n⟩
theorem XCls.tail {h:Heap} {C D:Addr} {mN mD:Str->Option Value} (X:XCls h C D mN mD):OwnTail h VE (.ref D::VE):=by
 obtain ⟨_,⟨c0,de,cd,sl,hD,hM⟩,n⟩:=X
 exact .own hD hM n .base
section
variable {M:Model} {prog:Program} {w:World} {A:Around} {E:Value->Shared->Prop} {h:Heap} {g:Array GenState} {d:Drawn} {t:Nat} {os:OsState} {C D:Addr} {mN mD mA:Str->Option Value}
theorem x_look {name:Str} {y:Option Value} {Q:Option Value->Shared->Prop} (X:XCls h C D mN mD) (hB:typeLookup (.type "ValueError") name=pure y) (hq:Q ((mN name).or ((mD name).or y)) ⟨h,g,d,t,os⟩):wpAny M A (typeLookup (.ref C) name) Q E ⟨h,g,d,t,os⟩:=by
 obtain ⟨⟨nm,q,N,bs,sn,sub,ab,col,dd,k0,k1,k2,k3,k5,hC,hN⟩,⟨c0,de,cd,sl,hD,hM⟩,n⟩:=X
 have hV:lookupAlong VE name=pure y:=by rw [typeLookup_eq,zqb0.mroIs] at hB;exact hB
 rw [typeLookup_eq]
 refine zqad (wpAny_mroOf_exc hC ?_)
 rw [lookupAlong_cons]
 refine zqad (wpAny_classOwn_exc hC hN ?_)
 cases e1:mN name with
 | some v=>rw [e1] at hq;exact zqas hq
 | none =>
  rw [e1] at hq
  show wpAny M A (lookupAlong (.ref D::VE) name) Q E _
  rw [lookupAlong_cons]
  refine zqad (wpAny_classOwn_cls hD hM ?_)
  cases e2:mD name with
  | some v=>rw [e2] at hq;exact zqas hq
  | none=>rw [e2] at hq;show wpAny M A (lookupAlong VE name) Q E _;rw [hV];exact zqas hq
theorem x_sub {b:Value} {Q:Bool->Shared->Prop} (X:XCls h C D mN mD) (hq:Q ((Value.ref C::.ref D::VE).contains b) ⟨h,g,d,t,os⟩):wpAny M A (isSubtype (.ref C) b) Q E ⟨h,g,d,t,os⟩:=by
 obtain ⟨⟨nm,q,N,bs,sn,sub,ab,col,dd,k0,k1,k2,k3,k5,hC,hN⟩,_⟩:=X
 exact wpAny_isSubtype_exc hC hq
theorem x_type_call {vs:List Value} {fI:Addr} {oI:Obj} {Q:Fin->Shared->Prop} (X:XCls h C D mN mD) (hi:mN "__init__" = some (.ref fI)) (hf:h.get? fI=some oI) (hc:oI.cls=.type "function") (hq:∀ h' e,Heap.MadeExcOf h h' e (.ref C) vs->h.objs.size<=e->wpAny (model prog w) A (call (.ref fI) (.ref e::vs)) (fun r s'=>r=.none/\Q (.done (.ret (.ref e))) s') E ⟨h',g,d,t,os⟩) (hl:vs.length<=sizeLine):wpAny (model prog w) A (Builtin.«type.__call__» ⟨.ref C::vs,[]⟩) Q E ⟨h,g,d,t,os⟩:=by
 have X0:=X
 have T:=X.tail
 obtain ⟨⟨nm,q,N,bs,sn,sub,ab,col,dd,k0,k1,k2,k3,k5,hC,hN⟩,_,_⟩:=X
 repeat (first | with_reducible refine zqap hC ?_ | with_reducible refine wpAny_madeBy_exc hC ?_ | wp_step)
 refine codeAny_call_builtin_code (Code.quiet_builtin _ zqb0.quiet) (wpAny_check_new_subT zqb0 T hC ?_)
 refine codeAny_exc_new_subT zqb0 T hC ?_ hl
 show wpAny _ _ _ _ _ _
 generalize ht:({ cls:=.type "tuple",data:=.seq vs.toArray }:Obj)=ot
 generalize hx:({ cls:=.ref C,data:=.fields #[.ref h.objs.size,.none,.none,.none,.bool false,.none] }:Obj)=ox
 have kp:∀ b o,h.get? b=some o->((h.push ot).push ox).get? b=some o:=fun b o z=>zqah _ (zqah _ z)
 have ge:((h.push ot).push ox).get? (h.objs.size+1)=some ox:=by subst ht hx;heap_get
 have gt:((h.push ot).push ox).get? h.objs.size=some ot:=zqah _ (Heap.get?_push_at rfl (by subst ht;rfl))
 have X1:=X0.keeps kp
 have cc:ox.cls=.ref C:=by subst hx;rfl
 have hm:Heap.MadeExcOf h ((h.push ot).push ox) (h.objs.size+1) (.ref C) vs:=⟨kp,zqcx (Nat.le_succ _),h.objs.size,by rw [ge];subst hx;rfl,zqcx (zqae _),by rw [gt];subst ht;rfl⟩
 have ct:(Value.ref C::.ref D::VE).contains (.ref C)=true:=by simp
 unfold isInstance
 repeat (first | (with_reducible refine zqap ge ?_;rw [cc]) | (with_reducible refine x_sub X1 ?_;rw [ct]) | wp_step)
 show wpAny _ _ (typeLookup (.ref C) _) _ _ _
 refine x_look X1 zqb0.init.lookup ?_
 rw [hi]
 refine zqce (zqad ?_)
 unfold bindSpecial
 refine zqad (wpAny_typeOf (T := "function") ⟨_,kp _ _ hf,hc⟩ ?_)
 rw [zqav (by decide)]
 refine zqas (zqad (zqbl (hq _ _ hm (Nat.le_succ _)) (fun r s' hr=>?_) fun _ _ z=>z))
 obtain ⟨rfl,hQ⟩:=hr
 wp_walk
 exact hQ
theorem x_call {vs:List Value} {fI:Addr} {oI:Obj} {Q:Value->Shared->Prop} (X:XCls h C D mN mD) (hi:mN "__init__" = some (.ref fI)) (hf:h.get? fI=some oI) (hc:oI.cls=.type "function") (hq:∀ h' e,Heap.MadeExcOf h h' e (.ref C) vs->h.objs.size<=e->wpAny (model prog w) (A.under (.builtin "type.__call__" ⟨.ref C::vs,[]⟩)) (call (.ref fI) (.ref e::vs)) (fun r s'=>r=.none/\Q (.ref e) s') E ⟨h',g,d,t,os⟩) (hl:vs.length<=sizeLine):wpAny (model prog w) A (call (.ref C) vs) Q E ⟨h,g,d,t,os⟩:=by
 have X0:=X
 obtain ⟨⟨nm,q,N,bs,sn,sub,ab,col,dd,k0,k1,k2,k3,k5,hC,hN⟩,_,_⟩:=X
 have f1:=tc_lookup
 have f2:=tc_bind (.ref C)
 have hT:(⟨h,g,d,t,os⟩:Shared).TypeIs (.ref C) "type" := ⟨_,hC,rfl⟩
 refine wpAny_call (codeAny_of_tree ?_)
 show wpAny _ _ (callAny (.ref C) _) _ _ _
 repeat (any_goals (first | assumption | with_reducible refine zqap hC ?_ | wp_step))
 refine ⟨rfl,codeAny_call_builtin_at (Code.quiet_builtin _ (⋯)) entry_typeCall (wpAny_check_type_call_sub hC (x_type_call X0 hi hf hc (fun h' e hm l=>hq h' e hm l) hl))⟩
end
end L2
end
section
namespace L2
open PySem PySem.Spec PyProof.Rows
open Builtin Builtin.ObjectAttr
section
variable {M:Model} {prog:Program} {w:World} {A:Around} {E:Value->Shared->Prop} {h:Heap} {g:Array GenState} {d:Drawn} {t:Nat} {os:OsState} {C D:Addr} {mN mD mA:Str->Option Value} {env:Env}
theorem x_raiseStmt {s:Shared} {x:Sem Value} {Q:Flow->Shared->Prop} (hh:A.handled=none) (hx:wpAny M A x (fun v s1=>∃ e oe vs,v=.ref e/\(∃ mN mD,XCls s1.heap C D mN mD)/\s1.heap.get? e=some oe/\oe.cls=.ref C/\oe.data=.fields vs/\vs[1]?=some .none/\E (.ref e) s1) E s):wpAny M A (raiseStmt env (some x) none) Q E s:=by
 have ct:(Value.ref C::.ref D::VE).contains (.type "BaseException")=true:=by simp
 unfold raiseStmt
 refine zqad (thn hx fun v s1 h1=>?_)
 obtain ⟨e,oe,vs,rfl,⟨mN,mD,X⟩,he,hc,hd,h1,hE⟩:=h1
 have X0:=X
 obtain ⟨⟨nm,q,N,bs,sn,sub,ab,col,dd,k0,k1,k2,k3,k5,hC,hN⟩,_,_⟩:=X
 obtain ⟨hp,g,d,tk,os⟩:=s1
 have nt:oe.data=.fields vs:=hd
 repeat (first | (with_reducible refine zqap he ?_;rw [hc]) | with_reducible refine zqap hC ?_ | (with_reducible refine x_sub X0 ?_;rw [ct]) | with_reducible refine wpAny_field he hd h1 ?_ | wp_step)
 exact wpAny_raiseNew_none hh hE
theorem x_raise {s : Shared} {x : Str} {np cpos pos : Pos} {args : List Expr} {Q : Flow -> Shared -> Prop} (hh : A.handled = none) (hp : (backTo cpos (starEach args env)).any (·.1) = false)
    (hx:wpAny (model prog w) A (eval (.Name x np) env) (fun f s1=>f=.ref C/\wpAny (model prog w) A (evalArgs (.ref C) true (backTo cpos (starEach args env)) []) (fun a s2=>a.kw=[]/\(∃ mN mD,XCls s2.heap C D mN mD) /\
      wpAny (model prog w) A (call (.ref C) a.pos) (fun v s3=>∃ e oe vs,v=.ref e/\(∃ mN mD,XCls s3.heap C D mN mD)/\s3.heap.get? e=some oe/\oe.cls=.ref C/\oe.data=.fields vs/\vs[1]?=some .none/\E (.ref e) s3) E s2) E s1) E s) :
    wpAny (model prog w) A (exec (.Raise (some (.Call (.Name x np) args [] cpos)) none pos) env) Q E s:=by
  rw [arm_exec_Raise]
  refine zqad (zqcr (x_raiseStmt (C:=C) (D:=D) hh ?_))
  refine zqad (thn (wpAny_Call_ofName (thn hx fun f s1 h1=>?_)) fun v s3 h3=>zqad (zqcr (zqas h3)))
  obtain ⟨rfl,h1⟩:=h1
  unfold callWith
  refine zqad (zqce (thn h1 fun a s2 h2=>zqad (zqcr ?_)))
  obtain ⟨ap,ak⟩:=a
  obtain ⟨hk,⟨mN,mD,X⟩,h2⟩:=h2
  obtain rfl:ak=[]:=hk
  obtain ⟨⟨nm,q,N,bs,sn,sub,ab,col,dd,k0,k1,k2,k3,k5,hC,hN⟩,_,_⟩:=X
  obtain ⟨hp',g,d,tk,os⟩:=s2
  simp only [hp]
  refine zqad (wpAny_keeperOf_exc hC ?_)
  exact zqad (thn h2 fun v s3 h3=>zqad (zqce (wpAny_point (zqas h3))))
theorem x_store_entry {x:Addr} {name:Str} {v:Value} {tk:Tok} {o:Obj} {vs:Array Value} {Q:Fin->Shared->Prop} (X:XCls h C D mN mD) (hn:mN name=none) (hm:mD name=none) (hB:typeLookup (.type "ValueError") name=pure none) (hx:h.get? x=some o) (hc:o.cls=.ref C) (hd:o.data=.fields vs) (hz:o.dict=none) (hq:∀ h' tk' dx,h.objs.size<=dx->h'.get? x=some { o with dict:=some dx }->(∀ b u,b≠x->h.get? b=some u->h'.get? b=some u)->h'.Ns1 dx (fun y=>if y=name then some v else none)->Q (.done (.ret .none)) ⟨h',g,d,tk',os⟩):wpAny (model prog w) A (Builtin.«object.__setattr__» ⟨[.ref x,.str name tk,v],[]⟩) Q E ⟨h,g,d,t,os⟩:=by
 have hp:refuseLoop (.ref x) "__setattr__" (.ref C::.ref D::VE)=pure ():=by rw [refuseLoop_ref,refuseLoop_ref];exact zqa1.passes _
 have X0:=X
 obtain ⟨⟨nm,q,N,bs,sn,sub,ab,col,dd,k0,k1,k2,k3,k5,hC,hN⟩,_,_⟩:=X
 unfold Builtin.«object.__setattr__»
 repeat (first | rw [refuse_eq] | rw [hp] | (with_reducible refine zqap hx ?_;rw [hc]) | with_reducible refine wpAny_mroOf_exc hC ?_ | (with_reducible refine x_look X0 hB ?_;rw [hn,hm]) | wp_step)
 rw [hz,hd,zqax (by simp [typeHasDict])]
 have hx1:(h.push { cls:=.type "dict",data:=.dict #[] }).get? x=some o:=zqah _ hx
 have ne:x≠h.objs.size:=zqa4 (zqaf hx)
 refine zqad (wpAny_alloc' (zqad (wpAny_update' hx1 (zqas ?_))))
 generalize hu:((h.push { cls:=.type "dict",data:=.dict #[] }).update x fun o=>{ cls:=o.cls,dict:=some h.objs.size,data:=o.data,slots:=o.slots })=h1
 have g1:h1.get? h.objs.size=some { cls:=.type "dict",data:=.dict #[] }:=by subst hu;exact (Heap.get?_update_ne _ _ _ _ ne.symm).trans (Heap.get?_push_at rfl rfl)
 have g2:h1.get? x=some { o with dict:=some h.objs.size }:=by
  subst hu
  refine zqcb _ hx1 ?_
  obtain ⟨a,b,c,e⟩:=o
  obtain rfl:c=.fields vs:=hd
  rfl
 have g3:∀ b u,b≠x->h.get? b=some u->h1.get? b=some u:=fun b u nb z=>by subst hu;exact (Heap.get?_update_ne _ _ _ _ nb).trans (zqah _ z)
 have nd:h1.Ns h.objs.size (fun _=>none):=⟨_,#[],_,g1,rfl,fun e he=>absurd he (by simp),fun _=>rfl⟩
 show wpAny _ _ (storeInDict h.objs.size (.str name tk) name v) _ _ _
 unfold storeInDict newKeyGuard
 refine zqad (zqas (zqad (wpAny_nsSet1 (Heap.Ns1.of_empty nd) fun h' n1 sm=>?_)))
 obtain ⟨oD,es,ep,hoD,hdD,hcD⟩:=n1.count (Within.cons name v Within.nil)
 refine zqad (wpAny_lookBehind hoD (by rw [hdD];exact pastItsLine_dict (zqat hcD (by rw [zqa2,zqcz,sizeLine_eq];omega))) ?_)
 wp_walk
 exact hq h' _ h.objs.size (zqae _) ((sm.2 x ne).trans g2) (fun b u nb z=>(sm.2 b (zqa4 (zqaf z))).trans (g3 b u nb z)) n1
theorem x_check_sa {x:Addr} {o:Obj} {nv v:Value} {Q:Unit->Shared->Prop} (X:XCls h C D mN mD) (hx:h.get? x=some o) (hc:o.cls=.ref C) (hq:Q () ⟨h,g,d,t,os⟩):wpAny M A (checkBuiltinCall "object.__setattr__" ⟨[.ref x,nv,v],[]⟩) Q E ⟨h,g,d,t,os⟩:=by
 have ct:(Value.ref C::.ref D::VE).contains (.type "object")=true:=by simp
 have ha:=zqa1.args (.ref x) nv v
 simp only [checkBuiltinCall,zqa1.kind,zqa1.split]
 refine zqad ?_
 ·unfold isInstance
  repeat (first | (with_reducible refine zqap hx ?_;rw [hc]) | (with_reducible refine x_sub X ?_;rw [ct]) | wp_step)
  exact hq
theorem x_store {x:Addr} {name:Str} {v:Value} {o:Obj} {vs:Array Value} {Q:Unit->Shared->Prop} (X:XCls h C D mN mD) (hs:mN "__setattr__" = none) (hs':mD "__setattr__" = none) (hn:mN name=none) (hm:mD name=none) (hB:typeLookup (.type "ValueError") name=pure none) (hx:h.get? x=some o) (hc:o.cls=.ref C) (hd:o.data=.fields vs) (hz:o.dict=none) (hq:∀ h' tk' dx,h.objs.size<=dx->h'.get? x=some { o with dict:=some dx }->(∀ b u,b≠x->h.get? b=some u->h'.get? b=some u)->h'.Ns1 dx (fun y=>if y=name then some v else none)->Q () ⟨h',g,d,tk',os⟩):wpAny (model prog w) A (setAttr (.ref x) name v) Q E ⟨h,g,d,t,os⟩:=by
 have f3:=zqa1.slot.bind (.ref x)
 unfold setAttr callSpecial? specialOf
 repeat (any_goals (first | assumption | (with_reducible refine zqap hx ?_;rw [hc]) | (with_reducible refine x_look X zqa1.slot.lookup ?_;rw [hs,hs']) | wp_step))
 refine zqb1 zqa1.slot.plain zqa1.entry (x_check_sa X hx hc (x_store_entry X hn hm hB hx hc hd hz fun h' tk' dx a b c e=>?_))
 repeat (any_goals (first | assumption | wp_step))
 exact hq h' tk' dx a b c e
theorem x_check_ga {x:Addr} {o:Obj} {nv:Value} {Q:Unit->Shared->Prop} (X:XCls h C D mN mD) (hx:h.get? x=some o) (hc:o.cls=.ref C) (hq:Q () ⟨h,g,d,t,os⟩):wpAny M A (checkBuiltinCall "BaseException.__getattribute__" ⟨[.ref x,nv],[]⟩) Q E ⟨h,g,d,t,os⟩:=by
 have hk:builtinKind "BaseException.__getattribute__" = some .slot:=⋯
 have hsplit:splitId "BaseException.__getattribute__" = some ("BaseException","__getattribute__"):=⋯
 have ct:(Value.ref C::.ref D::VE).contains (.type "BaseException")=true:=by simp
 have ha:=F.args_bexc_ga (.ref x) nv
 simp only [checkBuiltinCall,hk,hsplit]
 refine zqad ?_
 ·unfold isInstance
  repeat (first | (with_reducible refine zqap hx ?_;rw [hc]) | (with_reducible refine x_sub X ?_;rw [ct]) | wp_step)
  exact hq
theorem x_load_entry {x dx:Addr} {name:Str} {v:Value} {tk:Tok} {o:Obj} {vs:Array Value} {Q:Fin->Shared->Prop} (X:XCls h C D mN mD) (hn:mN name=none) (hm:mD name=none) (hB:typeLookup (.type "ValueError") name=pure none) (hx:h.get? x=some o) (hc:o.cls=.ref C) (hd:o.data=.fields vs) (hz:o.dict=some dx) (hA:h.Ns1 dx mA) (hv:mA name=some v) (hq:Q (.done (.ret v)) ⟨h,g,d,t,os⟩):wpAny (model prog w) A (Builtin.«object.__getattribute__» ⟨[.ref x,.str name tk],[]⟩) Q E ⟨h,g,d,t,os⟩:=by
 have X0:=X
 obtain ⟨⟨nm,q,N,bs,sn,sub,ab,col,dd,k0,k1,k2,k3,k5,hC,hN⟩,_,_⟩:=X
 unfold Builtin.«object.__getattribute__»
 repeat (first | (with_reducible refine zqap hx ?_;rw [hc]) | (with_reducible refine x_look X0 hB ?_;rw [hn,hm]) | wp_step)
 rw [hd]
 unfold instanceDict inDict
 repeat (first | (with_reducible refine zqap hx ?_;rw [hc]) | with_reducible refine zqap hC ?_ | rw [hz] | (with_reducible refine wpAny_nsGet hA.ns ?_;rw [hv]) | wp_step)
 exact hq
theorem x_load {x dx:Addr} {name:Str} {v:Value} {o:Obj} {vs:Array Value} {e:Bool} {Q:Value->Shared->Prop} (X:XCls h C D mN mD) (hg:mN "__getattribute__" = none) (hg':mD "__getattribute__" = none) (ha:mN "__getattr__" = none) (ha':mD "__getattr__" = none) (hn:mN name=none) (hm:mD name=none) (hB:typeLookup (.type "ValueError") name=pure none) (hx:h.get? x=some o) (hc:o.cls=.ref C) (hd:o.data=.fields vs) (hz:o.dict=some dx) (hA:h.Ns1 dx mA) (hv:mA name=some v) (hh:handedOut v=pure v) (hq:Q v ⟨h,g,d,t+1,os⟩):wpAny (model prog w) A (getAttr (.ref x) name e) Q E ⟨h,g,d,t,os⟩:=by
 have f3:=zqbc.ga.bind (.ref x)
 have q0:(e && onTheHeap (Value.builtin "BaseException.__getattribute__"))=false:=by cases e <;> rfl
 have q2:(Value.builtin "BaseException.__getattribute__" == Value.builtin "object.__getattribute__")=false:=⋯
 have q1:(onTheHeap (Value.ref C) && Value.builtin "BaseException.__getattribute__" == Value.builtin "object.__getattribute__")=false:=by rw [q2];rfl
 unfold getAttr getAttrBy
 repeat (any_goals (first | assumption | (with_reducible refine zqap hx ?_;rw [hc]) | (with_reducible refine x_look X zqbc.ga.lookup ?_;rw [hg,hg']) | (with_reducible refine x_look X zqbc.noGetattr ?_;rw [ha,ha']) | wp_step))
 refine zqb1 zqbc.ga.plain F.entry_bexc_ga (x_check_ga X hx hc (x_load_entry X hn hm hB hx hc hd hz hA hv ?_))
 show wpAny _ _ (handedOut v) _ _ _
 rw [hh]
 exact zqas hq
end
end L2
end
section
namespace L2
open PySem PySem.Spec PyProof.Rows
open Builtin Builtin.ObjectAttr
section
variable {M:Model} {prog:Program} {w:World} {A:Around} {E:Value->Shared->Prop} {h:Heap} {g:Array GenState} {d:Drawn} {t:Nat} {os:OsState} {C D:Addr} {mN mD mA:Str->Option Value} {env:Env}
theorem x_store2_entry {x dx:Addr} {name:Str} {v:Value} {tk:Tok} {o:Obj} {vs:Array Value} {ns:List Str} {Q:Fin->Shared->Prop} (X:XCls h C D mN mD) (hn:mN name=none) (hm:mD name=none) (hB:typeLookup (.type "ValueError") name=pure none) (hx:h.get? x=some o) (hc:o.cls=.ref C) (hd:o.data=.fields vs) (hz:o.dict=some dx) (hA:h.Ns1 dx mA) (hw:Within mA ns) (hl:ns.length<=1000) (hq:∀ h' tk',(∀ b u,b≠dx->h.get? b=some u->h'.get? b=some u)->h'.Ns1 dx (fun y=>if y=name then some v else mA y)->Q (.done (.ret .none)) ⟨h',g,d,tk',os⟩):wpAny (model prog w) A (Builtin.«object.__setattr__» ⟨[.ref x,.str name tk,v],[]⟩) Q E ⟨h,g,d,t,os⟩:=by
 have hp:refuseLoop (.ref x) "__setattr__" (.ref C::.ref D::VE)=pure ():=by rw [refuseLoop_ref,refuseLoop_ref];exact zqa1.passes _
 have X0:=X
 obtain ⟨⟨nm,q,N,bs,sn,sub,ab,col,dd,k0,k1,k2,k3,k5,hC,hN⟩,_,_⟩:=X
 unfold Builtin.«object.__setattr__»
 repeat (first | rw [refuse_eq] | rw [hp] | (with_reducible refine zqap hx ?_;rw [hc]) | with_reducible refine wpAny_mroOf_exc hC ?_ | (with_reducible refine x_look X0 hB ?_;rw [hn,hm]) | wp_step)
 rw [hz]
 refine zqas ?_
 show wpAny _ _ (storeInDict dx (.str name tk) name v) _ _ _
 unfold storeInDict newKeyGuard
 refine zqad (zqas (zqad (wpAny_nsSet1 hA fun h' n1 sm=>?_)))
 obtain ⟨oD,es,ep,hoD,hdD,hcD⟩:=n1.count (Within.cons name v hw)
 refine zqad (wpAny_lookBehind hoD (by rw [hdD];exact pastItsLine_dict (zqat hcD (by rw [zqa2,sizeLine_eq];omega))) ?_)
 wp_walk
 exact hq h' _ (fun b u nb z=>(sm.2 b nb).trans z) n1
theorem x_store2 {x dx:Addr} {name:Str} {v:Value} {o:Obj} {vs:Array Value} {ns:List Str} {Q:Unit->Shared->Prop} (X:XCls h C D mN mD) (hs:mN "__setattr__" = none) (hs':mD "__setattr__" = none) (hn:mN name=none) (hm:mD name=none) (hB:typeLookup (.type "ValueError") name=pure none) (hx:h.get? x=some o) (hc:o.cls=.ref C) (hd:o.data=.fields vs) (hz:o.dict=some dx) (hA:h.Ns1 dx mA) (hw:Within mA ns) (hl:ns.length<=1000) (hq:∀ h' tk',(∀ b u,b≠dx->h.get? b=some u->h'.get? b=some u)->h'.Ns1 dx (fun y=>if y=name then some v else mA y)->Q () ⟨h',g,d,tk',os⟩):wpAny (model prog w) A (setAttr (.ref x) name v) Q E ⟨h,g,d,t,os⟩:=by
 have f3:=zqa1.slot.bind (.ref x)
 unfold setAttr callSpecial? specialOf
 repeat (any_goals (first | assumption | (with_reducible refine zqap hx ?_;rw [hc]) | (with_reducible refine x_look X zqa1.slot.lookup ?_;rw [hs,hs']) | wp_step))
 refine zqb1 zqa1.slot.plain zqa1.entry (x_check_sa X hx hc (x_store2_entry X hn hm hB hx hc hd hz hA hw hl fun h' tk' a b=>?_))
 repeat (any_goals (first | assumption | wp_step))
 exact hq h' tk' a b
end
end L2
end
section
namespace L2
open PySem PySem.Spec PyProof.Rows
open Builtin Builtin.ObjectAttr
section
variable {M:Model} {prog:Program} {w:World} {A:Around} {E:Value->Shared->Prop} {h:Heap} {g:Array GenState} {d:Drawn} {t:Nat} {os:OsState} {C D x:Addr} {mN mD mA:Str->Option Value} {o:Obj} {vs:Array Value}
theorem lk_ve_class:typeLookup (.type "ValueError") "__class__" = pure (some (.builtin "object.__class__")):=by rw [typeLookup_type,builtinLookup_eq_fast];kernel_rfl
theorem x_class_get {R:Result->Shared->Prop} (X:XCls h C D mN mD) (hx:h.get? x=some o) (hc:o.cls=.ref C) (hq:R (.ok (.ret (.ref C))) ⟨h,g,d,t,os⟩):codeAny (model prog w) A (.call (.builtin "getset_descriptor.__get__") ⟨[.builtin "object.__class__",.ref x,.ref C],[]⟩) R ⟨h,g,d,t,os⟩:=by
 have hT:(⟨h,g,d,t,os⟩:Shared).TypeIs (.builtin "object.__class__") "getset_descriptor" := zqcv
 have ct:(Value.ref C::.ref D::VE).contains (.type (".".intercalate ("object.__class__".cutAt '.').dropLast))=true:=by rw [F.owner_object_class];simp
 refine zqb1 F.slot_gs_get.plain F.entry_gs_get (F.slot_gs_get.check _ _ _ _ _ _ _ _ hT (F.args_gs_get _ _ _) ?_)
 repeat (any_goals (first | assumption | (with_reducible refine zqap hx ?_;rw [hc]) | (with_reducible refine x_sub X ?_;rw [ct]) | wp_step))
 refine ⟨Code.quiet_builtin _ (⋯),codeAny_builtin F.entry_object_class ?_⟩
 repeat (any_goals (first | assumption | (with_reducible refine zqap hx ?_;rw [hc]) | wp_step))
theorem x_class_entry {tk:Tok} {Q:Fin->Shared->Prop} (X:XCls h C D mN mD) (hn:mN "__class__" = none) (hm:mD "__class__" = none) (hx:h.get? x=some o) (hc:o.cls=.ref C) (hq:Q (.done (.ret (.ref C))) ⟨h,g,d,t,os⟩):wpAny (model prog w) A (Builtin.«object.__getattribute__» ⟨[.ref x,.str "__class__" tk],[]⟩) Q E ⟨h,g,d,t,os⟩:=by
 have hT:(⟨h,g,d,t,os⟩:Shared).TypeIs (.builtin "object.__class__") "getset_descriptor" := zqcv
 have f5:=zqcv
 have f6:=F.slot_gs_get.lookup
 have f7:=F.slot_gs_set.lookup
 repeat (any_goals (first | assumption | (with_reducible refine zqap hx ?_;rw [hc]) | (with_reducible refine x_look X lk_ve_class ?_;rw [hn,hm]) | wp_step))
 refine x_class_get X hx hc ?_
 repeat (any_goals (first | assumption | wp_step))
theorem x_class {Q:Option Value->Shared->Prop} (X:XCls h C D mN mD) (hg:mN "__getattribute__" = none) (hg':mD "__getattribute__" = none) (ha:mN "__getattr__" = none) (ha':mD "__getattr__" = none) (hn:mN "__class__" = none) (hm:mD "__class__" = none) (hx:h.get? x=some o) (hc:o.cls=.ref C) (hq:Q (some (.ref C)) ⟨h,g,d,t+1,os⟩):wpAny (model prog w) A (getAttr? (.ref x) "__class__") Q E ⟨h,g,d,t,os⟩:=by
 have f3:=zqbc.ga.bind (.ref x)
 have q2:(Value.builtin "BaseException.__getattribute__" == Value.builtin "object.__getattribute__")=false:=⋯
 have q1:(onTheHeap (Value.ref C) && Value.builtin "BaseException.__getattribute__" == Value.builtin "object.__getattribute__")=false:=by rw [q2];rfl
 unfold getAttr? getAttrBy? getAttrBy
 repeat (any_goals (first | assumption | (with_reducible refine zqap hx ?_;rw [hc]) | (with_reducible refine x_look X zqbc.ga.lookup ?_;rw [hg,hg']) | (with_reducible refine x_look X zqbc.noGetattr ?_;rw [ha,ha']) | wp_step))
 refine zqb1 zqbc.ga.plain F.entry_bexc_ga (x_check_ga X hx hc (x_class_entry X hn hm hx hc ?_))
 repeat (any_goals (first | assumption | wp_step))
end
end L2
end
section
namespace L2
open PySem PySem.Spec PyProof.Rows
structure XAt (h:Heap) (lo:Nat) (e:Addr) (C dx:Addr) (tr:Option Addr):Prop where
 le:lo<=e
 obj:∃ oe vs,h.get? e=some oe/\oe.cls=.ref C/\oe.dict=some dx/\oe.data=.fields vs/\(match tr with
  | none=>vs[1]?=some .none
  | some T=>vs[1]?=some (.ref T)/\T≠e/\lo<=T/\∃ oT ts,h.get? T=some oT/\oT.data=.fields ts/\ts[3]?=some .none)
structure XKept (fr:List Addr) (e:Addr) (tr:Option Addr) (h h':Heap):Prop where
 sz:h.objs.size<=h'.objs.size
 keep:∀ b o,h.get? b=some o->b≠e->tr≠some b->b∉fr->h'.get? b=some o
 slots:∀ b o,h.get? b=some o->b≠e->tr≠some b->∃ sl,h'.get? b=some { o with slots:=sl }
section
variable {M:Model} {A:Around} {E:Value->Shared->Prop} {s:Shared}
theorem x_entry {base:Heap} {env:Env} {outer:List Env} {L e C dx:Addr} {lo:Nat} {h0:Heap} {oe:Obj} {vs:Array Value} {tr:Option Addr} {head:Value} {hn:Bool} {Q:Unit->Shared->Prop} (hfr:A.frames=some (env::outer)) (hl:s.heap.FunFrames base (env::outer)) (hf:env.frame=some L) (hlo:lo<=s.heap.objs.size) (le:lo<=e) (he:s.heap.get? e=some oe) (hc:oe.cls=.ref C) (hx:oe.dict=some dx) (hd:oe.data=.fields vs) (hz:1 < vs.size) (k0:XKept ((env::outer).filterMap (·.frame)) e tr h0 s.heap) (hq:∀ h' T,XAt h' lo e C dx (some T)->h0.objs.size<=T->XKept ((env::outer).filterMap (·.frame)) e tr h0 h'->Q () { s with heap:=h' }):wpAny M A (do let a <- frameOf env;let pl <- entryPlaceOf L hn;let b <- EntryCells.newEntry head a .none (rawInt L) .none pl;setField (.ref e) 1 b) (fun _ s'=>wpAny M A (setFlight (.ref e) none) Q E s') E s:=by
 have ne:e∉(env::outer).filterMap (·.frame):=fun hm=>by
  obtain ⟨_,o,ho,nf⟩:=hl.mem hm
  rw [he] at ho;cases ho;exact nf vs hd
 refine zqad (wpAny_frameOf_fun hfr hl hf fun h1 s1=>zqad (wpAny_entryPlaceOf fun pl hp=>?_))
 unfold EntryCells.newEntry newFields
 refine zqad (wpAny_newObj_type ?_ (hp.sizeOk5 _ _ _ _ _))
 generalize ho:({ cls:=.type "traceback",dict:=none,data:=.fields ([head,.ref L,.none,rawInt L,.none]++(if pl.isEmpty then List.replicate 6 Value.none else pl)).toArray }:Obj)=ot
 have he1:h1.get? e=some oe:=(s1.2.1 e ne).trans he
 have he2:=zqah (h:=h1) ot he1
 refine wpAny_setField he2 hd hz ?_
 have nT:h1.objs.size≠e:=Nat.ne_of_gt (zqaf he1)
 have hd3:=Obj.data_mapFields hd (·.setIfInBounds 1 (Value.ref h1.objs.size))
 have he3:=zqcb (Obj.mapFields (·.setIfInBounds 1 (Value.ref h1.objs.size))) he2 (Obj.isFreed_of_fields hd3)
 have gt:(h1.push ot).get? h1.objs.size=some ot:=zqa7 h1 (by subst ho;rfl)
 have hT:=(zqbb (h1.push ot) (Obj.mapFields (·.setIfInBounds 1 (Value.ref h1.objs.size))) (zqbd nT)).trans gt
 have hdT:ot.data=.fields ([head,.ref L,.none,rawInt L,.none]++(if pl.isEmpty then List.replicate 6 Value.none else pl)).toArray:=by subst ho;rfl
 unfold setFlight
 refine zqad (wpAny_field he3 hd3 (x:=.ref h1.objs.size) (by simp [hz]) ?_)
 rw [zqav (show (Value.ref h1.objs.size != Value.none)=true from by simp)]
 have z3:3 < ([head,.ref L,.none,rawInt L,.none]++(if pl.isEmpty then List.replicate 6 Value.none else pl)).toArray.size:=by simp only [zqaj,zqau,zqa2,zqcz];omega
 refine wpAny_setField hT hdT z3 ?_
 have hd4:=Obj.data_mapFields hdT (·.setIfInBounds 3 ((none:Option Addr).elim Value.none fun f=>rawInt f))
 have hT4:=zqcb (Obj.mapFields (·.setIfInBounds 3 ((none:Option Addr).elim Value.none fun f=>rawInt f))) hT (Obj.isFreed_of_fields hd4)
 have he4:=(zqbb ((h1.push ot).update e (Obj.mapFields (·.setIfInBounds 1 (Value.ref h1.objs.size)))) (Obj.mapFields (·.setIfInBounds 3 ((none:Option Addr).elim Value.none fun f=>rawInt f))) nT).trans he3
 have hk:∀ b o,h1.get? b=some o->b≠e->((((h1.push ot).update e (Obj.mapFields (·.setIfInBounds 1 (Value.ref h1.objs.size)))).update h1.objs.size (Obj.mapFields (·.setIfInBounds 3 ((none:Option Addr).elim Value.none fun f=>rawInt f))))).get? b=some o:=fun b o hb nb=>by
  rw [zqbb _ _ (Nat.ne_of_gt (zqaf hb)),zqbb _ _ (zqbd nb)]
  exact zqah _ hb
 have s1s:h1.objs.size=s.heap.objs.size:=s1.1
 refine hq _ h1.objs.size ⟨le,_,_,he4,(Obj.cls_mapFields _ _).trans hc,?_,hd3,by simp [hz],nT,∅,_,_,hT4,hd4,?_⟩ (by have:=k0.sz;omega) ⟨?_,fun b o hb nb nt nf=>?_,fun b o hb nb nt=>?_⟩
 ·obtain ⟨a1,a2,a3,a4⟩:=oe
  obtain rfl:a3=.fields vs:=hd
  exact hx
 ·rw [Array.getElem?_setIfInBounds,zqav rfl,zqav z3];rfl
 ·refine zqat k0.sz ?_
  rw [<- s1s,zqcp,zqcp,zqcc]
  exact Nat.le_succ _
 ·exact hk b o ((s1.2.1 b nf).trans (k0.keep b o hb nb nt nf)) nb
 ·obtain ⟨sl,h5⟩:=k0.slots b o hb nb nt
  obtain ⟨sl',h6⟩:=s1.2.2 b _ h5
  exact ⟨sl',hk b _ h6 nb⟩
theorem XKept.refl {fr:List Addr} {e:Addr} {tr:Option Addr} {h:Heap}:XKept fr e tr h h:=⟨zqae _,fun _ _ z _ _ _=>z,fun b o z _ _=>⟨o.slots,z⟩⟩
theorem x_note {base:Heap} {env:Env} {outer:List Env} {L e C dx:Addr} {lo:Nat} {tr:Option Addr} {Q:Unit->Shared->Prop} (hfr:A.frames=some (env::outer)) (hl:s.heap.FunFrames base (env::outer)) (hf:env.frame=some L) (hlo:lo<=s.heap.objs.size) (hx:XAt s.heap lo e C dx tr) (hq:∀ h' T,XAt h' lo e C dx (some T)->s.heap.objs.size<=T->XKept ((env::outer).filterMap (·.frame)) e tr s.heap h'->Q () { s with heap:=h' }):wpAny M A (noteFrame (.ref e) env) (fun _ s'=>wpAny M A (setFlight (.ref e) none) Q E s') E s:=by
 obtain ⟨le,oe,vs,he,hc,hx,hd,ht⟩:=hx
 unfold noteFrame
 simp only [hf]
 cases tr with
 | none =>
  have h1:vs[1]?=some .none:=ht
  refine zqad (wpAny_field he hd h1 ?_)
  rw [zqax (by decide)]
  exact x_entry hfr hl hf hlo le he hc hx hd (zqby.mp h1).1 .refl hq
 | some T =>
  obtain ⟨h1,nT,lT,oT,ts,gT,dT,h3⟩:=ht
  refine zqad (wpAny_field he hd h1 ?_)
  rw [zqav (show (Value.ref T != Value.none)=true from by simp)]
  refine zqad (wpAny_field gT dT h3 ?_)
  rw [zqax (show ¬ ((Value.none == rawInt L)=true) from by simp [rawInt])]
  refine zqad (wpAny_setField gT dT (zqby.mp h3).1 ?_)
  have ot:∀ b,b≠T->(s.heap.update T (Obj.mapFields (·.setIfInBounds 3 Value.none))).get? b=s.heap.get? b:=fun b hb=>zqbb _ _ (zqbd hb)
  have z:(s.heap.update T (Obj.mapFields (·.setIfInBounds 3 Value.none))).objs.size=s.heap.objs.size:=zqcp ..
  refine x_entry (h0:=s.heap) hfr (hl.of_keeps fun b o hb nf=>⟨o,(ot b fun q=>by subst q;rw [gT] at hb;cases hb;exact nf ts dT).trans hb,rfl⟩) hf (by show lo<=(s.heap.update T _).objs.size;rw [z];exact hlo) le ((ot e (zqbd nT)).trans he) hc hx hd (zqby.mp h1).1
   ⟨zqc0 z.symm,fun b o hb nb nt nf=>(ot b fun q=>nt (by rw [q])).trans hb,fun b o hb nb nt=>⟨o.slots,(ot b fun q=>nt (by rw [q])).trans hb⟩⟩ hq
end
end L2
end
section
namespace L2
open PySem PySem.Spec PyProof.Rows
noncomputable def XO (a C dx:Addr):HO:=.ext fun h=>∃ oe vs,h.get? a=some oe/\oe.cls=.ref C/\oe.dict=some dx/\oe.data=.fields vs
theorem XO.ok {P:Program} {w:World} {H:Hp} {h:Heap} {a C dx:Addr} {oe:Obj} {vs:Array Value} (e:h.get? a=some oe) (c:oe.cls=.ref C) (d:oe.dict=some dx) (f:oe.data=.fields vs):ObjOk P w H h a (XO a C dx) :=
 ⟨⟨oe,vs,e,c,d,f⟩,⟨oe,e⟩,fun h1 h2 ⟨oe,vs,e,r⟩ k=>⟨oe,vs,k _ e,r⟩⟩
theorem XAt.mono {h:Heap} {lo lo':Nat} {e C dx:Addr} {tr:Option Addr} (x:XAt h lo e C dx tr) (l:lo'<=lo):XAt h lo' e C dx tr:=by
 obtain ⟨le,oe,vs,a,b,c,d,r⟩:=x
 refine ⟨zqat l le,oe,vs,a,b,c,d,?_⟩
 cases tr with
 | none=>exact r
 | some T=>exact ⟨r.1,r.2.1,zqat l r.2.2.1,r.2.2.2⟩
theorem XAt.ok {P:Program} {w:World} {H:Hp} {h:Heap} {lo:Nat} {e C dx:Addr} {tr:Option Addr} (x:XAt h lo e C dx tr):ObjOk P w H h e (XO e C dx):=by
 obtain ⟨le,oe,vs,a,b,c,d,r⟩:=x
 exact XO.ok a b c d
noncomputable def TrOk (X:Cx) (pins:List (Addr×Obj)) (H:Hp) (tr:Option Addr):Prop:=∀ T,tr=some T->H T=none/\X.s₀.heap.objs.size<=T/\T≠X.env.locals/\(∀ x c,X.env.cells.lookup x=some c->c≠T)/\∀ p∈X.pn++pins,p.1≠T
section
variable {X:Cx} {pins:List (Addr×Obj)} {σ:St} {H:Hp} {s:Shared}
theorem TrOk.new (I:Inv X pins σ H s) {H':Hp} {T:Addr} (h:s.heap.objs.size<=T) (n:H' T=none):TrOk X pins H' (some T):=fun T' e=>by
 cases e
 refine ⟨n,zqat I.sz h,fun z=>?_,fun x c e z=>?_,fun p hp z=>?_⟩
 ·subst z;exact absurd I.lt (zqc1.mpr h)
 ·obtain ⟨v,o,ho,_⟩:=I.cell x c e
  subst z;exact absurd (zqaf ho) (zqc1.mpr h)
 ·have:=zqaf (I.pin p hp).1
  rw [z] at this;exact absurd this (zqc1.mpr h)
theorem TrOk.none:TrOk X pins H none:=fun _ e=>nomatch e
theorem note_inv {M:Model} {E:Value->Shared->Prop} {lo:Nat} {e C dx:Addr} {tr:Option Addr} {Q:Unit->Shared->Prop} (I:Inv X pins σ H s) (stk:X.stack=X.env::X.outer/\X.env.frame=some X.env.locals) (hx:XAt s.heap lo e C dx tr) (he:H e=some (XO e C dx)) (hT:TrOk X pins H tr) (hlo:lo<=s.heap.objs.size) (hq:∀ s' T,Inv X pins σ H s'->XAt s'.heap lo e C dx (some T)->s.heap.objs.size<=T->H T=none->Q () s'):wpAny M X.A (noteFrame (.ref e) X.env) (fun _ s'=>wpAny M X.A (setFlight (.ref e) none) Q E s') E s:=by
 have hfr:=I.ok.frames
 rw [stk.1] at hfr
 have hst:=I.stack
 rw [stk.1] at hst
 refine x_note hfr hst stk.2 hlo hx fun h' T x l k=>?_
 have hn:H T=none:=I.hok.fresh l
 have fsub:∀ b,b∈(X.env::X.outer).filterMap (·.frame)->H b=none/\b∈X.env.locals::X.fs:=fun b hb=>by
  have hb':b∈frs X.stack:=by rw [stk.1];exact hb
  exact ⟨I.stkFree b hb',I.stkSub b hb'⟩
 have ntr:∀ b u,H b=some u->tr≠some b:=fun b u q z=>by rw [(hT b z).1] at q;cases q
 have kt:∀ b u o,H b=some u->b≠e->s.heap.get? b=some o->h'.get? b=some o:=fun b u o q nb g=>k.keep b o g nb (ntr b u q) fun z=>by rw [(fsub b z).1] at q;cases q
 refine hq _ T ?_ x l hn
 refine I.step (g':=s.gens) (d':=s.drawn) (t':=s.toks) (ch:=tr.toList) (fun b hb=>?_) (fun b o nl nf nc g n=>?_) (fun b o nl hf nc g n=>?_) (fun b o _ _ n=>n) (fun b o nc g=>?_) (fun _ _ q=>q) (fun _ _ _ q=>q) (fun b ps q=>⟨#[],by rw [q];simp⟩) (fun m hm=>?_) (fun b u q=>?_) I.bare
 ·cases tr with
  | none=>cases hb
  | some T0 =>
   have:b=T0:=by simpa using hb
   subst this
   obtain ⟨a1,a2,a3,a4,a5⟩:=hT b rfl
   exact ⟨.inr a2,a3,a4,a5⟩
 ·refine k.keep b o g (fun z=>by subst z;rw [he] at n;cases n) (fun z=>nc (by rw [z];simp)) fun z=>?_
  rcases zqaq.mp (fsub b z).2 with y | y
  ·exact nl y
  ·exact nf y
 ·exact k.slots b o g (fun z=>by subst z;rw [he] at n;cases n) fun z=>nc (by rw [z];simp)
 ·by_cases hb:b=e
  ·subst hb
   obtain ⟨_,oe,_,g1,_⟩:=x
   exact ⟨oe,g1⟩
  ·obtain ⟨sl,y⟩:=k.slots b o g hb fun z=>nc (by rw [z];simp)
   exact ⟨_,y⟩
 ·obtain ⟨o,es,ep,ho,r⟩:=hm
  obtain ⟨sl,y⟩:=k.slots _ o ho (fun z=>by have f:=I.free;rw [z,he] at f;cases f) fun z=>(hT _ z).2.2.1 rfl
  exact ⟨_,es,ep,y,r⟩
 ·by_cases hb:b=e
  ·subst hb
   rw [he] at q;cases q
   exact x.ok
  ·refine (I.hok b u q).stay (fun c o hc g=>?_) (fun _ z=>z) fun _ _ z=>z
   rcases hc with z | z
   ·subst z;exact kt _ u o q hb g
   ·refine kt c _ o z (fun y=>?_) g
    subst y;rw [he] at z;cases z
def CXe (P:Program) (w:World):CXT:=fun outer H s E e s'=>∃ ea C dx T H',e=.ref ea/\s'.os=s.os/\AllBare s'.gens/\Un (frs outer) [] H H' s.heap s'.heap/\HOk P w H' s'.heap/\XAt s'.heap s.heap.objs.size ea C dx (some T)/\H' ea=some (XO ea C dx)/\H' T=none/\E (.ref C) (some dx) H'
structure XPass (X:Cx) (E:XK):Prop where
 xe:∀ {pins:List (Addr×Obj)} {σ:St} {H:Hp} {s:Shared} {e C dx:Addr} {tr:Option Addr} {lo:Nat},Inv X pins σ H s->XAt s.heap lo e C dx tr->H e=some (XO e C dx)->TrOk X pins H tr->X.s₀.heap.objs.size<=lo->lo<=s.heap.objs.size->E (.ref C) (some dx) H->X.xe (.ref e) s
 own:PassesOwn (model X.prog X.w) X.A X.env X.xe
theorem XPass.pass {E:XK} (p:XPass X E):Passes (CXe X.prog X.w) X E:=by
 rintro pins σ H s e s' I ⟨ea,C,dx,T,H',rfl,os,bare,un,hok,x,he,hT,hE⟩
 have I':Inv X pins σ H' s':=I.call' os un hok bare (fun b z=>absurd z (by simp))
 have x0:=x
 obtain ⟨l1,oe,vs,g,c,d,f,h1,h2,lT,_⟩:=x
 exact p.xe I' x0 he (TrOk.new I lT hT) I.sz (zqat l1 (zqbq (zqaf g))) hE
end
theorem cx_pass {P:Program} {w:World} {K:PySem.W.Frag} {mg:Str->Option Value} {base:Heap} {N:List Str} {qual:Str} {scope:Scope} {f:Addr} {cd:Value} {A:Around} {outer:List Env} {s₀:Shared} {H₀:Hp} {E:XK}:XPass (cxOf (CXe P w) P w K mg base N qual scope f cd A outer s₀ H₀ E) E where
 own:=PassesOwn.leaving
 xe:=by
  intro pins σ H s e C dx tr lo I x he hT l1 l2 hE
  show wpAny _ _ (leaving _ _) _ _ _
  unfold leaving
  refine zqad (note_inv I ⟨rfl,rfl⟩ x he hT l2 fun s' T I' x' lT nT=>?_)
  exact ⟨e,C,dx,T,H,rfl,I'.os,I'.bare,I'.base,I'.hok,x'.mono l1,he,nT,hE⟩
end L2
end
section
namespace L2
open PySem PySem.Spec PyProof.Rows
noncomputable def qnames:List Str:=["__setattr__","__getattribute__","__getattr__","__class__"]
structure XIn (K:PySem.W.Frag) (C D fI:Addr) (fs:List Str):Prop where
 cls:∃ nm q N bs sn sub ab col dd k0 k1 k2 k3 k5,K.lookup C=some (excClassObj nm q C N bs (.ref D::VE) true sn sub ab col dd k0 k1 k2 k3 k5 "ValueError.__new__")/\PySem.W.nsOkIn K N=true/\PySem.W.nsIn K N "__init__" = some (some (.ref fI))/\∀ n∈fs++qnames,PySem.W.nsIn K N n=some none
 par:∃ c0 dd cd sl,K.lookup D=some { cls:=c0,dict:=dd,data:=.cls cd,slots:=sl }/\PySem.W.nsOkIn K cd.ns=true/\∀ n∈("__init__" : Str)::(fs++qnames),PySem.W.nsIn K cd.ns n=some none
 ve:∀ f∈fs,typeLookup (.type "ValueError") f=pure none
theorem ns_some_of {K:PySem.W.Frag} {h:Heap} {N:Addr} {m:Str->Option Value} {n:Str} {v:Value} (X:K.In h) (G:h.Ns N m) (e:PySem.W.nsIn K N n=some (some v)):m n=some v:=by
 obtain ⟨o,es,ep,ho,hd,_,hf⟩:=G
 unfold PySem.W.nsIn at e
 split at e
 ·rename_i q
  have z:=X _ _ q
  rw [ho] at z
  cases z
  cases hd
  split at e
  ·rename_i en he
   cases e
   rw [<- hf]
   unfold nsFind findBy
   rw [<- Array.find?_toList,he]
   rfl
  ·split at e <;> cases e
 ·cases e
theorem XIn.at {K:PySem.W.Frag} {C D fI:Addr} {fs:List Str} (x:XIn K C D fI fs) {h:Heap} (X:K.In h):∃ mN mD,XCls h C D mN mD/\mN "__init__" = some (.ref fI)/\∀ n∈fs++qnames,mN n=none/\mD n=none:=by
 obtain ⟨⟨nm,q,N,bs,sn,sub,ab,col,dd,k0,k1,k2,k3,k5,hC,o1,i1,n1⟩,⟨c0,de,cd,sl,hD,o2,n2⟩,_⟩:=x
 have a:h.Ns N (h.nsMap N):=.of_isNs (PySem.W.isNs_of_in X o1)
 have b:h.Ns cd.ns (h.nsMap cd.ns):=.of_isNs (PySem.W.isNs_of_in X o2)
 exact ⟨_,_,⟨⟨nm,q,N,bs,sn,sub,ab,col,dd,k0,k1,k2,k3,k5,X _ _ hC,a⟩,⟨c0,de,cd,sl,X _ _ hD,b⟩,zqc6 X b (n2 _ zqar)⟩,ns_some_of X a i1,fun n hn=>⟨zqc6 X a (n1 n hn),zqc6 X b (n2 n (zqai _ hn))⟩⟩
noncomputable def X0 (a C:Addr):HO:=.ext fun h=>∃ oe t,h.get? a=some oe/\oe.cls=.ref C/\oe.dict=none/\oe.data=.fields #[.ref t,.none,.none,.none,.bool false,.none]
noncomputable def X1 (a C dx:Addr):HO:=.ext fun h=>∃ oe t,h.get? a=some oe/\oe.cls=.ref C/\oe.dict=some dx/\oe.data=.fields #[.ref t,.none,.none,.none,.bool false,.none]
section
variable {X:Cx} {o value:Expr} {f:Str} {pos pos':Pos} {ta tv:TE}
def sXf (K:PySem.W.Frag) (f:Str) (ta tv:TE):TS:=fun Z σ H=>tv σ H fun y H1=>ta σ H1 fun x H2=>∃ a C D fI fs,x=.ref a/\H2 a=some (X0 a C)/\XIn K C D fI fs/\f∈fs/\∀ dx,H2 dx=none->dx≠a->Z.nx σ (upd (upd H2 dx (.xd [(f,y)])) a (X1 a C dx))
theorem ps_xf (ha:PE X o ta) (hv:PE X value tv) (hs:swapsWith value (some (.Attribute o f pos')) pos.line X.env=pure false):PS X (.Assign [.Attribute o f pos'] value pos) (sXf X.K f ta tv):=by
 intro pins s σ H Z I h
 refine plainObj_wpAny_Assign_Attribute (thn (hv pins s σ H _ I h) fun u s1 ⟨y,H1,I1,ry,q⟩=>thn (ha pins s1 σ H1 _ I1 q) fun ov s2 ⟨x,H2,I2,rx,a,C,D,fI,fs,ex,ea,xi,mf,q2⟩=>?_) hs
 subst ex
 obtain rfl:ov=Value.ref a:=rx
 obtain ⟨⟨oe,t,e1,e2,e3,e4⟩,_,_⟩:=(show ObjOk X.prog X.w H2 s2.heap a (X0 a C) from I2.hok a _ ea)
 obtain ⟨mN,mD,xc,_,hn⟩:=xi.at I2.kIn
 have g1:=hn f (zqbr _ mf)
 have g2:=hn "__setattr__" (zqan _ (by simp [qnames]))
 obtain ⟨h,g,d,tk,os⟩:=s2
 refine x_store xc g2.1 g2.2 g1.1 g1.2 (xi.ve f mf) e1 e2 e4 e3 fun h' tk' dx l z k n1=>?_
 have nx:H2 dx=none:=I2.hok.fresh l
 have ne:dx≠a:=fun y=>by subst y;exact absurd (zqaf e1) (zqc1.mpr l)
 have na:∀ b,H2 b=none->b≠a:=fun b q y=>by subst y;rw [ea] at q;cases q
 have nb:∀ b u,H2 b=some u->b≠dx:=fun b u q y=>by subst y;rw [nx] at q;cases q
 have u1:∀ b,b≠a->b≠dx->upd (upd H2 dx (.xd [(f,y)])) a (X1 a C dx) b=H2 b:=fun b p q=>by rw [upd_ne p,upd_ne q]
 have nl:∀ b o,h.get? b=some o->b≠dx:=fun b o q y=>by subst y;exact absurd (zqaf q) (zqc1.mpr l)
 have kk:∀ b u,H2 b=some u->(∀ c,u≠.ext c)->b≠a:=fun b u q p y=>by subst y;rw [ea] at q;cases q;exact p _ rfl
 refine ⟨σ,_,I2.un (t':=tk') ⟨fun b o q n _ _=>k b o (na b n) q,fun b o q n _ _=>⟨o.slots,k b o (na b n) q⟩,fun b o q n _=>by rw [u1 b (na b n) (nl b o q)];exact n,fun b o q _=>?_,fun b xs q=>?_,fun b o u q=>?_,fun b ps q=>⟨#[],?_⟩⟩ fun b u q=>?_,q2 dx nx ne⟩
 ·by_cases hb:b=a
  ·subst hb;exact ⟨_,z⟩
  ·exact ⟨o,k b o hb q⟩
 ·rw [u1 b (kk b _ q fun c y=>by cases y) (nb b _ q)];exact q
 ·rw [u1 b (kk b _ q fun c y=>by cases y) (nb b _ q)];exact q
 ·rw [u1 b (kk b _ q fun c y=>by cases y) (nb b _ q),q];simp
 ·by_cases hb:b=a
  ·subst hb
   rw [upd_same] at q;cases q
   exact ⟨⟨_,t,z,e2,rfl,e4⟩,⟨_,z⟩,fun h1 h2 ⟨oe,t,e,r⟩ k=>⟨oe,t,k _ e,r⟩⟩
  ·rw [upd_ne hb] at q
   by_cases hd:b=dx
   ·subst hd
    rw [upd_same] at q;cases q
    refine ⟨_,n1,fun n=>?_⟩
    by_cases hf:n=f
    ·subst hf;simp only [zqac,beq_self_eq_true,zqcf];exact ry
    ·have:(n == f)=false:=by simpa using hf
     simp only [zqac,this,hf,if_false];exact True.intro
   ·rw [upd_ne hd] at q
    refine (I2.hok b u q).stay (fun c o hc r=>k c o ?_ r) (fun c r=>?_) fun c xs r=>?_
    ·rcases hc with y | y
     ·rw [y];exact hb
     ·exact kk c _ y fun _ w=>by cases w
    ·rw [u1 c (kk c _ r fun _ w=>by cases w) (nb c _ r)];exact r
    ·rw [u1 c (kk c _ r fun _ w=>by cases w) (nb c _ r)];exact r
end
section
variable {X:Cx} {o value:Expr} {f:Str} {pos pos':Pos} {ta tv:TE}
def sXg (K:PySem.W.Frag) (f:Str) (ta tv:TE):TS:=fun Z σ H=>tv σ H fun y H1=>ta σ H1 fun x H2=>∃ a C D fI fs dx gs,x=.ref a/\H2 a=some (X1 a C dx)/\XIn K C D fI fs/\f∈fs/\H2 dx=some (.xd gs)/\gs.lookup f=none/\gs.length<=999/\Z.nx σ (upd H2 dx (.xd (gs++[(f,y)])))
theorem lookup_snoc {α:Type} {f n:Str} {y:α}:∀ {gs:List (Str×α)},gs.lookup f=none->(gs++[(f,y)]).lookup n=if n=f then some y else gs.lookup n
 | [],_=>by
  by_cases h:n=f
  ·subst h;simp
  ·have:(n == f)=false:=by simpa using h
   simp [zqac,this,h]
 | (g,z)::gs,e=>by
  rw [zqac] at e
  rw [List.cons_append,zqac,zqac]
  split at e
  ·cases e
  ·rename_i hf
   have hf:f≠g:=by simpa using hf
   split
   ·rename_i hg
    obtain rfl:n=g:=by simpa using hg
    rw [zqax (zqbd hf)]
   ·exact lookup_snoc e
theorem ps_xg (ha:PE X o ta) (hv:PE X value tv) (hs:swapsWith value (some (.Attribute o f pos')) pos.line X.env=pure false):PS X (.Assign [.Attribute o f pos'] value pos) (sXg X.K f ta tv):=by
 intro pins s σ H Z I h
 refine plainObj_wpAny_Assign_Attribute (thn (hv pins s σ H _ I h) fun u s1 ⟨y,H1,I1,ry,q⟩=>thn (ha pins s1 σ H1 _ I1 q) fun ov s2 ⟨x,H2,I2,rx,a,C,D,fI,fs,dx,gs,ex,ea,xi,mf,ed,lf,ll,q2⟩=>?_) hs
 subst ex
 obtain rfl:ov=Value.ref a:=rx
 obtain ⟨⟨oe,t,e1,e2,e3,e4⟩,_,_⟩:=(show ObjOk X.prog X.w H2 s2.heap a (X1 a C dx) from I2.hok a _ ea)
 obtain ⟨mA,nA,rl⟩:=(show ObjOk X.prog X.w H2 s2.heap dx (.xd gs) from I2.hok dx _ ed)
 obtain ⟨mN,mD,xc,_,hn⟩:=xi.at I2.kIn
 have g1:=hn f (zqbr _ mf)
 have g2:=hn "__setattr__" (zqan _ (by simp [qnames]))
 have wi:Within mA (gs.map (·.1)):=fun y hy=>by
  have r:=rl y
  cases hl:gs.lookup y with
  | none=>rw [hl] at r;cases hm:mA y with
   | none=>exact absurd hm hy
   | some v=>rw [hm] at r;exact r.elim
  | some v=>exact List.mem_map.mpr ⟨(y,v),zqam hl,rfl⟩
 obtain ⟨h,g,d,tk,os⟩:=s2
 refine x_store2 xc g2.1 g2.2 g1.1 g1.2 (xi.ve f mf) e1 e2 e4 e3 nA wi (by rw [zqaz];omega) fun h' tk' k n1=>?_
 have na:∀ b,H2 b=none->b≠dx:=fun b q y=>by subst y;rw [ed] at q;cases q
 have kk:∀ b u,H2 b=some u->(∀ c,u≠.xd c)->b≠dx:=fun b u q p y=>by subst y;rw [ed] at q;cases q;exact p _ rfl
 refine ⟨σ,_,I2.un (t':=tk') ⟨fun b o q n _ _=>k b o (na b n) q,fun b o q n _ _=>⟨o.slots,k b o (na b n) q⟩,fun b o q n _=>by rw [upd_ne (na b n)];exact n,fun b o q _=>?_,fun b xs q=>?_,fun b o u q=>?_,fun b ps q=>⟨#[],?_⟩⟩ fun b u q=>?_,q2⟩
 ·by_cases hb:b=dx
  ·subst hb;obtain ⟨o',_,_,e,_⟩:=n1;exact ⟨o',e⟩
  ·exact ⟨o,k b o hb q⟩
 ·rw [upd_ne (kk b _ q fun c y=>by cases y)];exact q
 ·rw [upd_ne (kk b _ q fun c y=>by cases y)];exact q
 ·rw [upd_ne (kk b _ q fun c y=>by cases y),q];simp
 ·by_cases hb:b=dx
  ·subst hb
   rw [upd_same] at q;cases q
   refine ⟨_,n1,fun n=>?_⟩
   rw [lookup_snoc lf]
   by_cases hf:n=f
   ·rw [zqav hf,zqav hf];exact ry
   ·rw [zqax hf,zqax hf];exact rl n
  ·rw [upd_ne hb] at q
   refine (I2.hok b u q).stay (fun c o hc r=>k c o ?_ r) (fun c r=>?_) fun c xs r=>?_
   ·rcases hc with y | y
    ·rw [y];exact hb
    ·exact kk c _ y fun _ w=>by cases w
   ·rw [upd_ne (kk c _ r fun _ w=>by cases w)];exact r
   ·rw [upd_ne (kk c _ r fun _ w=>by cases w)];exact r
end
def spI (K:PySem.W.Frag) (C D fI:Addr) (fs:List Str):Sp:=fun vs H Q _=>∃ a ys,vs=.ref a::ys/\ys.length=fs.length/\H a=some (X0 a C)/\XIn K C D fI fs/\∀ dx,H dx=none->dx≠a->Q .non (upd (upd H dx (.xd (fs.zip ys))) a (X1 a C dx))
def nmOk (st:Stmt) (ns:List Str):Bool:=ns.all fun n=>(match (defScope st).names.lookup n with | some .local=>true | _=>false) && !(n == ("__debug__" : Str)) && !(n == ("__classdict__" : Str))
theorem nmOk.at {st:Stmt} {ns:List Str} (h:nmOk st ns=true) {n:Str} (m:n∈ns):Vis (defScope st) n/\(n == ("__debug__" : Str))=false/\(n == ("__classdict__" : Str))=false:=by
 have q:=zqa5.mp h n m
 simp only [zqab,zqa0] at q
 obtain ⟨⟨q1,q2⟩,q3⟩:=q
 refine ⟨.inl ?_,q2,q3⟩
 split at q1
 ·assumption
 ·cases q1
theorem upd_swap {H:Hp} {a b:Addr} {o u v:HO} (n:b≠a):upd (upd (upd H b o) a u) b v=upd (upd H b v) a u:=by
 funext c
 by_cases h1:c=b
 ·subst h1;rw [upd_same,upd_ne n,upd_same]
 ·rw [upd_ne h1]
  by_cases h2:c=a
  ·subst h2;rw [upd_same,upd_same]
  ·rw [upd_ne h2,upd_ne h1,upd_ne h2,upd_ne h1]
theorem init_ok {P:Program} {w:World} {K:PySem.W.Frag} {mg:Str->Option Value} {base:Heap} {qual:Str} {st:Stmt} {fI C D:Addr} {fd:FuncData} {f sf:Str} {p1 p2 p3 p4:Pos} {k:Nat} (F:Fun K "__init__" qual st fI fd) (Sc:FnScope [sf,f] [sf,f] (defScope st)) (hb:defBody st=[.Assign [.Attribute (.Name sf p1) f p2] (.Name f p3) p4]) (n:nmOk st [sf,f]=true):FnOk P w K mg base CX0 (k+1) fI fd [sf,f] (spI K C D fI [f]):=by
 have h1:=nmOk.at n (n:=sf) (by simp)
 have h2:=nmOk.at n (n:=f) (by simp)
 refine F.ok Sc (fun vs H Q E h=>?_) fun cdv A outer s H vs Q E hr hsp=>?_
 ·obtain ⟨a,ys,rfl,hl,_⟩:=h;rw [zqa2,hl];rfl
 ·obtain ⟨a,ys,rfl,hl,ha,xi,q⟩:=hsp
  rcases ys with _|⟨v,_|⟨_,_⟩⟩ <;> first | (simp at hl;done) | skip
  refine ⟨_,by rw [hb];exact pss_one (ps_xf (pe_var (i:=0) rfl h1.1 h1.2.1 h1.2.2) (pe_var (i:=1) rfl h2.1 h2.2.1 h2.2.2) rfl),?_⟩
  exact ⟨v,rfl,.ref a,rfl,a,C,D,fI,[f],rfl,ha,xi,by simp,q⟩
theorem init_ok2 {P:Program} {w:World} {K:PySem.W.Frag} {mg:Str->Option Value} {base:Heap} {qual:Str} {st:Stmt} {fI C D:Addr} {fd:FuncData} {f g sf:Str} {p1 p2 p3 p4 q1 q2 q3 q4:Pos} {k:Nat} (F:Fun K "__init__" qual st fI fd) (Sc:FnScope [sf,f,g] [sf,f,g] (defScope st)) (hb:defBody st=[.Assign [.Attribute (.Name sf p1) f p2] (.Name f p3) p4,.Assign [.Attribute (.Name sf q1) g q2] (.Name g q3) q4]) (n:nmOk st [sf,f,g]=true):FnOk P w K mg base CX0 (k+1) fI fd [sf,f,g] (spI K C D fI [f,g]):=by
 have h1:=nmOk.at n (n:=sf) (by simp)
 have h2:=nmOk.at n (n:=f) (by simp)
 have h3:=nmOk.at n (n:=g) (by simp)
 have nd:(g == f)=false:=by
  have:=Sc.nd
  simp only [zqb4,zqaq,not_or] at this
  simpa using zqbd this.2.1.1
 refine F.ok Sc (fun vs H Q E h=>?_) fun cdv A outer s H vs Q E hr hsp=>?_
 ·obtain ⟨a,ys,rfl,hl,_⟩:=h;rw [zqa2,hl];rfl
 ·obtain ⟨a,ys,rfl,hl,ha,xi,q⟩:=hsp
  rcases ys with _|⟨v,_|⟨v2,_|⟨_,_⟩⟩⟩ <;> first | (simp at hl;done) | skip
  refine ⟨_,by rw [hb];exact pss_cons (ps_xf (pe_var (i:=0) rfl h1.1 h1.2.1 h1.2.2) (pe_var (i:=1) rfl h2.1 h2.2.1 h2.2.2) rfl) (pss_one (ps_xg (pe_var (i:=0) rfl h1.1 h1.2.1 h1.2.2) (pe_var (i:=2) rfl h3.1 h3.2.1 h3.2.2) rfl)),?_⟩
  refine ⟨v,rfl,.ref a,rfl,a,C,D,fI,[f,g],rfl,ha,xi,by simp,fun dx nx ne=>?_⟩
  refine ⟨v2,rfl,.ref a,rfl,a,C,D,fI,[f,g],dx,[(f,v)],rfl,upd_same,xi,by simp,by rw [upd_ne ne];exact upd_same,by simp [zqac,nd],by simp,?_⟩
  rw [upd_swap ne]
  exact q dx nx ne
theorem init_ok3 {P:Program} {w:World} {K:PySem.W.Frag} {mg:Str->Option Value} {base:Heap} {qual:Str} {st:Stmt} {fI C D:Addr} {fd:FuncData} {f g e sf:Str} {p1 p2 p3 p4 q1 q2 q3 q4 r1 r2 r3 r4:Pos} {k:Nat} (F:Fun K "__init__" qual st fI fd) (Sc:FnScope [sf,f,g,e] [sf,f,g,e] (defScope st)) (hb:defBody st=[.Assign [.Attribute (.Name sf p1) f p2] (.Name f p3) p4,.Assign [.Attribute (.Name sf q1) g q2] (.Name g q3) q4,.Assign [.Attribute (.Name sf r1) e r2] (.Name e r3) r4]) (n:nmOk st [sf,f,g,e]=true):FnOk P w K mg base CX0 (k+1) fI fd [sf,f,g,e] (spI K C D fI [f,g,e]):=by
 have h1:=nmOk.at n (n:=sf) (by simp)
 have h2:=nmOk.at n (n:=f) (by simp)
 have h3:=nmOk.at n (n:=g) (by simp)
 have h4:=nmOk.at n (n:=e) (by simp)
 have nd:(g == f)=false/\(e == f)=false/\(e == g)=false:=by
  have:=Sc.nd
  simp only [zqb4,zqaq,not_or] at this
  exact ⟨by simpa using zqbd this.2.1.1,by simpa using zqbd this.2.1.2.1,by simpa using zqbd this.2.2.1.1⟩
 refine F.ok Sc (fun vs H Q E h=>?_) fun cdv A outer s H vs Q E hr hsp=>?_
 ·obtain ⟨a,ys,rfl,hl,_⟩:=h;rw [zqa2,hl];rfl
 ·obtain ⟨a,ys,rfl,hl,ha,xi,q⟩:=hsp
  rcases ys with _|⟨v,_|⟨v2,_|⟨v3,_|⟨_,_⟩⟩⟩⟩ <;> first | (simp at hl;done) | skip
  refine ⟨_,by rw [hb];exact pss_cons (ps_xf (pe_var (i:=0) rfl h1.1 h1.2.1 h1.2.2) (pe_var (i:=1) rfl h2.1 h2.2.1 h2.2.2) rfl) (pss_cons (ps_xg (pe_var (i:=0) rfl h1.1 h1.2.1 h1.2.2) (pe_var (i:=2) rfl h3.1 h3.2.1 h3.2.2) rfl) (pss_one (ps_xg (pe_var (i:=0) rfl h1.1 h1.2.1 h1.2.2) (pe_var (i:=3) rfl h4.1 h4.2.1 h4.2.2) rfl))),?_⟩
  refine ⟨v,rfl,.ref a,rfl,a,C,D,fI,[f,g,e],rfl,ha,xi,by simp,fun dx nx ne=>?_⟩
  refine ⟨v2,rfl,.ref a,rfl,a,C,D,fI,[f,g,e],dx,[(f,v)],rfl,upd_same,xi,by simp,by rw [upd_ne ne];exact upd_same,by simp [zqac,nd.1],by simp,?_⟩
  rw [upd_swap ne]
  refine ⟨v3,rfl,.ref a,rfl,a,C,D,fI,[f,g,e],dx,[(f,v),(g,v2)],rfl,upd_same,xi,by simp,by rw [upd_ne ne];exact upd_same,by simp [zqac,nd.2.1,nd.2.2],by simp,?_⟩
  rw [upd_swap ne]
  exact q dx nx ne
section
variable {X:Cx}
def tRse (E:XK) (C:Addr) (fs:List Str) (t:TA):TS:=fun _ σ H=>t σ H fun vs H1=>vs.length=fs.length/\∀ e dx,H1 e=none->H1 dx=none->dx≠e->E (.ref C) (some dx) (upd (upd H1 dx (.xd (fs.zip vs))) e (XO e C dx))
theorem ps_raise {E:XK} {k:Nat} {C D fI:Addr} {fd:FuncData} {oI:Obj} {fs:List Str} {sf x:Str} {e:Expr} {es:List Expr} {np cpos pos:Pos} {t:TA} (p:XPass X E) (hc:X.A.handled=none) (xi:XIn X.K C D fI fs) (hf:X.K.lookup fI=some oI) (hfc:oI.cls=.type "function") (F:FnOk X.prog X.w X.K X.mg X.base CX0 k fI fd (sf::fs) (spI X.K C D fI fs)) (hr:Room (k+1) X.A) (hb:Binds X.K fd (sf::fs) []) (hlf:fs.length<=sizeLine) (hg:Gl X x) (hm:X.mg x=some (.ref C)) (ha:PA X (e::es) t) (hs:starEach (e::es) X.env=(false,eval e X.env)::starEach es X.env) (hpl:(backTo cpos (starEach (e::es) X.env)).any (·.1)=false) (hdb:(x == ("__debug__" : Str))=false):PS X (.Raise (some (.Call (.Name x np) (e::es) [] cpos)) none pos) (tRse E C fs t):=by
 intro pins s σ H Z I h
 refine x_raise (C:=C) (D:=D) hc hpl (ld_glob I hg hm ⟨rfl,?_⟩ hdb)
 have ha:=ha cpos pins s σ H _ I h
 rw [hs] at ha ⊢
 refine Calls.evalArgs_plain (thn ha ?_)
 rintro us s1 ⟨vs,H1,I1,r,ev,q⟩
 obtain ⟨mN,mD,xc,hi,_⟩:=xi.at I1.kIn
 refine ⟨rfl,⟨mN,mD,xc⟩,?_⟩
 obtain ⟨h1,g1,d1,t1,os1⟩:=s1
 refine x_call xc hi (I1.kIn _ _ hf) hfc (fun h2 e hm l=>?_) (by rw [<- r.length,ev];exact hlf)
 obtain ⟨t,ge,_⟩:=hm.there
 have ne:H1 e=none:=I1.hok.fresh l
 have I2:Inv X pins σ (upd H1 e (X0 e C)) ⟨h2,g1,d1,t1,os1⟩:=I1.laid (t':=t1) hm.keeps l ⟨⟨_,t,ge,rfl,rfl,rfl⟩,⟨_,ge⟩,fun h1 h2 ⟨oe,t,e,r⟩ k=>⟨oe,t,k _ e,r⟩⟩
 have hsp:spI X.K C D fI fs (.ref e::vs) (upd H1 e (X0 e C)) (fun w H2=>w=.non/\∃ dx,H1 dx=none/\dx≠e/\H2=upd (upd (upd H1 e (X0 e C)) dx (.xd (fs.zip vs))) e (X1 e C dx)) E0 :=
  ⟨e,vs,rfl,ev,upd_same,xi,fun dx nd ne2=>⟨rfl,dx,by rw [upd_ne ne2] at nd;exact nd,ne2,rfl⟩⟩
 have r2:Vals (V.ref e::vs) (Value.ref e::us):=.cons rfl r
 refine wpAny_call (zqca (F.run _ X.stack _ _ ⟨.ref e::us,[]⟩ (.ref e::us) _ _ E0 (hr.make C us []) (I2.env0.make C us []) (by have:=hb ⟨h2,g1,d1,t1,os1⟩ (.ref e::us) I2.kIn (by rw [zqbs,zqa2,zqa2,<- r.length,ev]);rw [zqbs] at this;exact this) r2 hsp) fun r s3 hq=>?_)
 cases r with
 | error e=>exact hq.elim
 | ok fl =>
  cases fl with
  | ret u =>
   obtain ⟨w,H',I3,rw1,ew,dx,nd,nde,eH⟩:=I2.after hq
   subst ew
   refine ⟨rw1,?_⟩
   have e1:H' e=some (X1 e C dx):=by rw [eH];exact upd_same
   obtain ⟨⟨oe,t3,g3,c3,d3,f3⟩,_⟩:=(show ObjOk X.prog X.w H' s3.heap e (X1 e C dx) from I3.hok e _ e1)
   have eH2:upd H' e (XO e C dx)=upd (upd H1 dx (.xd (fs.zip vs))) e (XO e C dx):=by
    rw [eH];funext b
    by_cases hb:b=e
    ·subst hb;rw [upd_same,upd_same]
    ·rw [upd_ne hb,upd_ne hb,upd_ne hb]
     by_cases hd:b=dx
     ·subst hd;rw [upd_same,upd_same]
     ·rw [upd_ne hd,upd_ne hd,upd_ne hb]
   have I4:Inv X pins σ (upd H' e (XO e C dx)) s3:=I3.write (t':=s3.toks) (h':=s3.heap) (by rw [e1];exact True.intro) (.inl rfl) (fun _ _ _ z=>z) ⟨_,g3⟩ (XO.ok g3 c3 d3 f3)
   obtain ⟨mN,mD,xc3,_⟩:=xi.at I3.kIn
   refine ⟨e,oe,_,rfl,⟨mN,mD,xc3⟩,g3,c3,f3,rfl,?_⟩
   refine p.xe I4 (lo:=h1.objs.size) ⟨l,oe,_,g3,c3,d3,f3,rfl⟩ upd_same TrOk.none I1.sz (zqat l (zqbq (zqaf g3))) ?_
   rw [eH2]
   exact q e dx ne nd nde
  | next=>exact hq.elim
  | brk=>exact hq.elim
  | cont=>exact hq.elim
end
end L2
end
section
namespace L2
open PySem PySem.Spec PyProof.Rows
theorem x_matches {K:PySem.W.Frag} {M:Model} {A:Around} {E:Value->Shared->Prop} {s:Shared} {e C B:Addr} {oe:Obj} {Q:Bool->Shared->Prop} (X:K.In s.heap) (he:s.heap.get? e=some oe) (hc:oe.cls=.ref C) (h1:PySem.W.kitCls K (.ref C) (.ref B)=some true) (h2:PySem.W.kitCls K (.ref B) (.type "BaseException")=some true) (hq:Q true s):wpAny M A (excMatches (.ref e) (.ref B)) Q E s:=by
 obtain ⟨a1,a2,a3⟩:=PySem.W.kit_cls (M:=M) X h1
 obtain ⟨_,_,b3⟩:=PySem.W.kit_cls (M:=M) X h2
 have t1:PySem.W.Looks M s.heap (isInstance (.ref B) (.type "tuple")) false:=a1.andThen (PySem.W.Looks.of_pure tc_notTuple)
 unfold excMatches isExcClass
 refine zqad (t1.at ?_)
 simp only [zqcj,if_false]
 obtain ⟨hp,g,d,tk,os⟩:=s
 refine zqad (zqas ?_)
 simp only [List.forIn_cons,List.forIn_nil]
 have t2:PySem.W.Looks M hp (typeOf (.ref e)) (.ref C):=by
  unfold typeOf
  intro A' Q' E' s' k q
  rw [<- hc] at q
  exact zqad (wpAny_loadPart (k _ _ he) (zqas q))
 refine zqad (zqad (zqad (zqad (a2.at ?_))))
 simp only [zqcf]
 refine b3.at ?_
 simp only [Bool.not_true,zqcj,if_false]
 refine zqas (zqas (zqad (t2.at (zqad (zqad (zqad (a3.at ?_)))))))
 simp only [zqcf]
 exact zqas (zqas (zqas hq))
noncomputable def Cx.hx (X:Cx) (e:Addr):Cx:={ X with A:=X.A.mark (some (.ref e)),calm:=false,xe:=fun _ _=>False }
section
variable {X:Cx} {pins:List (Addr×Obj)} {σ:St} {H:Hp} {s:Shared} {e:Addr}
theorem Inv.hx (I:Inv X pins σ H s) (e:Addr):Inv (X.hx e) pins σ H s :=
 ⟨⟨I.ok.mod,I.ok.kind,I.ok.glob,I.ok.blt,I.ok.above,I.ok.inj,I.ok.has,I.ok.cab,fun z=>Bool.noConfusion z,I.ok.frames,I.ok.stk,I.ok.exf,I.ok.bs,I.ok.bsz,I.ok.noex,I.ok.exfs,I.ok.funs,I.ok.frf⟩,I.os,I.bare,I.base,I.loc,I.cell,I.free,I.freeC,I.pin,I.hok,I.len⟩
theorem Inv.unhx (ok:X.Ok) (I:Inv (X.hx e) pins σ H s):Inv X pins σ H s:=⟨ok,I.os,I.bare,I.base,I.loc,I.cell,I.free,I.freeC,I.pin,I.hok,I.len⟩
theorem name_goes {M:Model} {A:Around} {E:Value->Shared->Prop} {i:Nat} {n:Str} {pos:Pos} {Q:Unit->Shared->Prop} (I:Inv X pins σ H s) (hN:X.N.Nodup) (hi:X.N[i]?=some n) (hl:X.env.scope.names.lookup n=some .local) (h:∀ s',Inv X pins (σ.set i none) H s'->Q () s'):wpAny M A (do bindName X.env n .none;unbindBehindTheSuite X.env n pos) Q E s:=by
 obtain ⟨m,hn,hl'⟩:=id I.loc
 have hcls:(X.env.scope.kind == .class || (X.env.scope.kind == .module && X.env.locals != X.env.globals))=false:=by rw [I.ok.kind];rfl
 refine wpAny_nameGoes_keeps hl hn hcls fun h' v hn' hs=>?_
 have neL:∀ b o,X.s₀.heap.get? b=some o->b≠X.env.locals:=fun b o e=>zqa4 (zqao (zqaf e) I.ok.above)
 refine h _ ⟨I.ok,I.os,I.bare,⟨fun b o e n hb hx=>(hs.2 b (neL b o e)).trans (I.base.keep b o e n hb hx),fun b o e n hb hx=>?_,I.base.free,fun b o e hx=>?_,I.base.tups,I.base.frzs,I.base.tbls⟩,⟨_,hn',fun j y v' e1 e2 e3=>?_⟩,fun y c e=>?_,I.free,I.freeC,fun p hp=>?_,fun b ob q=>?_,by rw [zqb5];exact I.len⟩
 ·obtain ⟨sl,e1⟩:=I.base.slot b o e n hb hx
  exact ⟨sl,(hs.2 b (neL b o e)).trans e1⟩
 ·obtain ⟨o',e1⟩:=I.base.there b o e hx
  exact ⟨o',(hs.2 b (neL b o e)).trans e1⟩
 ·have hj:j≠i:=fun z=>by
   subst z
   rw [List.getElem?_set] at e2
   split at e2
   ·split at e2 <;> cases e2
   ·exact absurd rfl ‹_›
  rw [zqbe (zqbd hj)] at e2
  obtain ⟨u',r',q⟩:=hl' j y v' e1 e2 e3
  refine ⟨u',r',?_⟩
  rcases q with ⟨k,q⟩|⟨k,c,q,z⟩
  ·have ny:y≠n:=fun z=>hj (nodup_ix hN e1 (by rw [z];exact hi))
   exact .inl ⟨k,by show (if y=n then v else m y)=_;rw [zqax ny];exact q⟩
  ·exact .inr ⟨k,c,q,z.sameBut hs (I.cne y c q)⟩
 ·obtain ⟨w',z⟩:=I.cell y c e
  exact ⟨w',z.sameBut hs (I.cne y c e)⟩
 ·obtain ⟨e,n,ne,nf,d⟩:=I.pin p hp
  exact ⟨(hs.2 p.1 ne).trans e,n,ne,nf,d⟩
 ·refine (I.hok b ob q).stay (fun c w' hc q'=>(hs.2 c ?_).trans q') (fun _ q=>q) fun _ _ q=>q
  rintro rfl
  rcases hc with z | z
  ·have:=I.free;rw [z,q] at this;cases this
  ·have:=I.free;rw [z] at this;cases this
theorem handler_ok {Z:Ends} {lo:Nat} {C dx B:Addr} {tr:Option Addr} {cn n:Str} {tp hpos:Pos} {b0:Stmt} {hb:List Stmt} {th:TS} {i:Nat} (I:Inv X pins σ H s) (stk:X.stack=X.env::X.outer/\X.env.frame=some X.env.locals) (x:XAt s.heap lo e C dx tr) (he:H e=some (XO e C dx)) (hT:TrOk X pins H tr) (l2:lo<=s.heap.objs.size) (hg:Gl X cn) (hm:X.mg cn=some (.ref B)) (hdb:(cn == ("__debug__" : Str))=false) (k1:PySem.W.kitCls X.K (.ref C) (.ref B)=some true) (k2:PySem.W.kitCls X.K (.ref B) (.type "BaseException")=some true) (hN:X.N.Nodup) (hi:X.N[i]?=some n) (hl:X.env.scope.names.lookup n=some .local) (hh:PSs (X.hx e) (b0::hb) th) (q:th { nx:=fun σ2 H2=>Z.nx (σ2.set i none) H2,rt:=fun _ _=>False } (σ.set i (some (.ref e))) H):wpAny (model X.prog X.w) X.A (noteFrame (.ref e) X.env) (fun _ s2=>wpAny (model X.prog X.w) X.A (setFlight (.ref e) none) (fun _ s3=>wpAny (model X.prog X.w) X.A (handleBy (.ref e) X.env [.ExceptHandler (some (.Name cn tp)) (some n) (b0::hb) hpos]) (SP X pins Z) X.xe s3) X.xe s2) X.xe s:=by
 refine note_inv I stk x he hT l2 fun s1 T I1 x1 lT nT=>?_
 obtain ⟨le,oe,vs,g1,c1,d1,f1,h1,nTe,_,oT,ts,gT,dT,h3⟩:=id x1
 refine wpAny_handleBy_cons (codeAny_handlers_test ?_) (by intro q;cases q)
 refine ld_glob (X:=X.hx e) (I1.hx e) hg hm ?_ hdb
 refine x_matches I1.kIn g1 c1 k1 k2 ?_
 refine codeAny_handlers_suite_as (wpAny_setFlight_none g1 f1 h1 gT dT (zqby.mp h3).1 ?_)
 have tt:=TrOk.new (H':=H) I lT nT T rfl
 have I2:Inv X pins σ H { s1 with heap:=s1.heap.update T (Obj.mapFields (·.setIfInBounds 3 .none)) }:=I1.turned (t':=s1.toks) (it:=T) (fun b o nb z=>(zqbb _ _ (zqbd nb)).trans z) nT tt.2.2.1 (.inr tt.2.1) tt.2.2.2.1 tt.2.2.2.2
 refine store_ok (v:=.ref e) I2 hN hi (.inl hl) rfl (fun s3 I3=>?_) (.inr hl)
 refine zqbl (hh pins s3 _ H _ (I3.hx e) q) (fun f s4 h4=>?_) fun _ _ z=>z.elim
 cases f with
 | next =>
  obtain ⟨σ4,H4,I4,q4⟩:=h4
  exact name_goes (I4.unhx I.ok) hN hi hl fun s5 I5=>⟨_,H4,I5,q4⟩
 | brk=>obtain ⟨_,_,_,q4⟩:=h4;exact q4.elim
 | cont=>obtain ⟨_,_,_,q4⟩:=h4;exact q4.elim
 | ret u=>obtain ⟨_,_,_,_,_,q4⟩:=h4;exact q4.elim
end
end L2
end
section
namespace L2
open PySem PySem.Spec PyProof.Rows
theorem kitx_x {K:PySem.W.Frag} {x C D fI:Addr} {f:List Str} (xi:XIn K C D fI f):PySem.W.KitX K (.ref x) (.ref C) (fun h=>∃ o,h.get? x=some o/\o.cls=.ref C) where
 ty:=fun M h _ ⟨o,e,c⟩=>by
  unfold typeOf
  intro A' Q' E' s' k q
  rw [<- c] at q
  exact zqad (wpAny_loadPart (k _ _ e) (zqas q))
 it:=fun M h X _=>by
  obtain ⟨⟨nm,q,N,bs,sn,sub,ab,col,dd,k0,k1,k2,k3,k5,hC,_⟩,_,_⟩:=xi
  intro A' Q' E' s' k q
  unfold isType loadHead
  exact zqad (wpAny_loadPart (k _ _ (X _ _ hC)) (zqas q))
 ne:=fun h tp dd its n sl X htp=>by
  obtain ⟨⟨nm,q,N,bs,sn,sub,ab,col,de,k0,k1,k2,k3,k5,hC,_⟩,_,_⟩:=xi
  refine Bool.eq_false_iff.mpr fun q=>?_
  have e:C=tp:=Value.ref.inj (zqa8.mp q)
  subst e
  have z:=zqb6 Obj.cls (zqag ((X _ _ hC).symm.trans htp))
  exact absurd (show Value.type "type" = Value.type "tuple" from z) (by decide)
 ca:=fun {prog w A E Q s} X ⟨o,e,c⟩ k=>by
  obtain ⟨mN,mD,xc,_,hn⟩:=xi.at X
  obtain ⟨h,g,d,t,os⟩:=s
  have n1:=hn "__getattribute__" (zqan _ (by simp [qnames]))
  have n2:=hn "__getattr__" (zqan _ (by simp [qnames]))
  have n3:=hn "__class__" (zqan _ (by simp [qnames]))
  exact x_class xc n1.1 n1.2 n2.1 n2.2 n3.1 n3.2 e c k
section
variable {X:Cx}
theorem XO.at {P:Program} {w:World} {H:Hp} {h:Heap} {a C dx:Addr} (x:HOk P w H h) (e:H a=some (XO a C dx)):∃ oe vs,h.get? a=some oe/\oe.cls=.ref C/\oe.dict=some dx/\oe.data=.fields vs:=(show ObjOk P w H h a (XO a C dx) from x a _ e).1
def rIsX (K:PySem.W.Frag):List V->Hp->VK->Prop:=fun xs H Q=>∃ a C dx D fI f y b,xs=[.ref a,y]/\H a=some (XO a C dx)/\XIn K C D fI f/\( (∃ c,RelV y c/\PySem.W.kitOne K (.ref C) c=some b)\/∃ (tp:Addr) (cs:List Addr),y=.ref tp/\H tp=some (.tup (cs.map V.ref))/\PySem.W.kitAny K (.ref C) (cs.map Value.ref)=some b)/\Q (.bl b) H
theorem vals_refs:∀ {cs:List Addr} {us:List Value},Vals (cs.map V.ref) us->us=cs.map Value.ref
 | [],_,.nil=>rfl
 | _::_,_,.cons r t=>by rw [(show _=Value.ref _ from r),vals_refs t];rfl
theorem rel_det {y:V} {c u:Value} (h:RelV y c) (k:RelV y u) (n:∀ i,y≠.int i) (m:∀ i,y≠.str i) (o:∀ i,y≠.byt i) (p:∀ i,y≠.flt i):c=u:=by
 cases y with
 | int i=>exact absurd rfl (n i)
 | str i=>exact absurd rfl (m i)
 | byt i=>exact absurd rfl (o i)
 | flt i=>exact absurd rfl (p i)
 | non=>exact (show c=_ from h).trans (show u=_ from k).symm
 | bl b=>exact (show c=_ from h).trans (show u=_ from k).symm
 | ref b=>exact (show c=_ from h).trans (show u=_ from k).symm
 | ty b=>exact (show c=_ from h).trans (show u=_ from k).symm
theorem call_isx:CallR X (.builtin "isinstance") (rIsX X.K):=by
 intro pins s σ H xs us Q I r h
 obtain ⟨a,C,dx,D,fI,f,y,b,rfl,ea,xi,hc,q⟩:=h
 obtain ⟨u1,u2,rfl,r1,r2⟩:∃ u1 u2,us=[u1,u2]/\RelV (.ref a) u1/\RelV y u2:=by
  cases r with
  | cons r1 t=>cases t with
   | cons r2 t=>cases t;exact ⟨_,_,rfl,r1,r2⟩
 obtain rfl:u1=Value.ref a:=r1
 obtain ⟨oe,vs,g1,c1,_,_⟩:=XO.at I.hok ea
 have fin:∀ tk,EP X pins σ Q (.bool b) { s with toks:=tk }:=fun tk=>⟨.bl b,H,I.tok tk,rfl,q⟩
 rcases hc with ⟨c,rc,e⟩|⟨tp,cs,rfl,et,e⟩
 ·have:c=u2:=by
   refine rel_det rc r2 ?_ ?_ ?_ ?_ <;> (rintro i rfl;obtain ⟨t,rfl⟩:=rc;exact absurd e (by unfold PySem.W.kitOne;rw [zqax (by simp)];exact fun z=>nomatch z))
  subst this
  exact zqa9 (kitx_x xi) I.kIn ⟨oe,g1,c1⟩ e (fun z=>nomatch z) fin
 ·obtain rfl:u2=Value.ref tp:=r2
  obtain ⟨_,its,rv,o,go,co,n,d1⟩:=(show ObjOk X.prog X.w H s.heap tp (.tup (cs.map V.ref)) from I.hok tp _ et)
  have:=vals_refs rv
  subst this
  obtain ⟨oc,od,oda,osl⟩:=o
  obtain rfl:oc=.type "tuple" := co
  obtain rfl:oda=_:=d1
  exact PySem.W.kia_tup (kitx_x xi) I.kIn ⟨oe,g1,c1⟩ go e (fun z=>nomatch z) fin
theorem handed_is {v:V} {u:Value} (r:RelV v u):handedOut u=pure u:=by
 cases v with
 | non=>cases (show u=Value.none from r);rfl
 | bl b=>cases (show u=Value.bool b from r);rfl
 | int i=>obtain ⟨t,e⟩:=(show ∃ t,u=Value.int i t from r);cases e;rfl
 | str i=>obtain ⟨t,e⟩:=(show ∃ t,u=Value.str i t from r);cases e;rfl
 | byt i=>obtain ⟨t,e⟩:=r;cases e;rfl
 | flt i=>obtain ⟨t,e⟩:=r;cases e;rfl
 | ref b=>cases (show u=Value.ref b from r);rfl
 | ty b=>cases (show u=Value.type b from r);rfl
def tXf (K:PySem.W.Frag) (te:TE) (f:Str):TE:=fun σ H Q=>te σ H fun x H1=>∃ a C D fI dx gs fs i,x=.ref a/\H1 a=some (XO a C dx)/\XIn K C D fI gs/\f∈gs/\H1 dx=some (.xd fs)/\fs.lookup f=some i/\Q i H1
theorem pe_xf {e:Expr} {f:Str} {pos:Pos} {te:TE} (he:PE X e te) (hb:attributeBase e f X.env (eval e X.env)=eval e X.env):PE X (.Attribute e f pos) (tXf X.K te f):=by
 intro pins s σ H Q I h
 refine attr_of hb (thn (he pins s σ H _ I h) ?_)
 rintro u s1 ⟨x,H1,I1,rx,a,C,D,fI,dx,gs,fs,i,rfl,ea,xi,mf,ed,l,q⟩
 obtain rfl:u=Value.ref a:=rx
 obtain ⟨oe,vs,g1,c1,d1,f1⟩:=XO.at I1.hok ea
 obtain ⟨mA,n1,rl⟩:=(show ObjOk X.prog X.w H1 s1.heap dx (.xd fs) from I1.hok dx _ ed)
 have r:=rl f
 rw [l] at r
 obtain ⟨mN,mD,xc,_,hn⟩:=xi.at I1.kIn
 have m1:=hn "__getattribute__" (zqan _ (by simp [qnames]))
 have m2:=hn "__getattr__" (zqan _ (by simp [qnames]))
 have m3:=hn f (zqbr _ mf)
 cases hv:mA f with
 | none=>rw [hv] at r;exact r.elim
 | some v =>
  rw [hv] at r
  obtain ⟨h1,g,d,tk,os⟩:=s1
  exact x_load xc m1.1 m1.2 m2.1 m2.2 m3.1 m3.2 (xi.ve f mf) g1 c1 f1 d1 n1 hv (handed_is r) ⟨i,H1,I1.tok _,r,q⟩
end
end L2
end
section
namespace L2
open PySem PySem.Spec PyProof.Rows
structure RoomH (k:Nat) (A:Around):Prop where
 dp:A.depth+3 * k+5 < recursionLimit
 un:A.units+16 * k+200 < cLine
theorem RoomH.depth {k:Nat} {A:Around} (r:RoomH k A):A.depth < recursionLimit:=by have:=r.dp;omega
theorem RoomH.deeper {k:Nat} {A:Around} (r:RoomH (k+1) A) (env:Env):RoomH k (A.deeper env) :=
 ⟨by have:=r.dp;show A.depth+1+3 * k+5 < _;omega,by have:=r.un;show A.units+3+16 * k+200 < _;omega⟩
def cxOfH (CX:CXT) (P:Program) (w:World) (K:PySem.W.Frag) (mg:Str->Option Value) (base:Heap) (N:List Str) (qual:Str) (scope:Scope) (f:Addr) (cd:Value) (A:Around) (outer:List Env) (s:Shared) (H:Hp) (E:XK):Cx:={ cxOf CX P w K mg base N qual scope f cd A outer s H E with calm:=false }
structure FnOkH (P:Program) (w:World) (K:PySem.W.Frag) (mg:Str->Option Value) (base:Heap) (CX:CXT) (k:Nat) (f:Addr) (fd:FuncData) (ps:List Str) (sp:Sp):Prop where
 len:∀ vs H Q E,sp vs H Q E->vs.length=ps.length
 run:∀ (A:Around) (outer:List Env) (s:Shared) (H:Hp) (args:Args) (us:List Value) (vs:List V) (Q:VK) (E:XK),RoomH k A->Env0 P w K mg base A outer s H->BindsTo s fd args (ps.zip us)->Vals vs us->sp vs H Q E ->
  codeAny (model P w) A (.call (.ref f) args) (CR CX outer P w H s Q E) s
theorem inv_startH {CX:CXT} {P:Program} {w:World} {K:PySem.W.Frag} {mg:Str->Option Value} {base:Heap} {N ps:List Str} {qual:Str} {scope:Scope} {f:Addr} {cd:Value} {A:Around} {outer:List Env} {s s1:Shared} {H:Hp} {E:XK} {us:List Value} {vs:List V} (S:FnScope N ps scope) (e0:Env0 P w K mg base A outer s H) (hl:vs.length=ps.length) (r:Vals vs us) (x:InCallC s s.heap.objs.size (bindL (envOfC qual scope s.heap.objs.size f cd).kindOf (ps.zip us) fun _=>none) (cellsFrom (s.heap.objs.size+1) scope.names []) (bindC (envOfC qual scope s.heap.objs.size f cd).kindOf (ps.zip us) fun _=>none) s1):Inv (cxOfH CX P w K mg base N qual scope f cd A outer s H E) [] (start N vs) H s1:=by
 have hpl:ps.length<=N.length:=by have:=zqb6 List.length S.pre;rw [zqct] at this;omega
 obtain ⟨h1,tk,rfl,hk⟩:=x.done
 have noA:∀ b:Addr,b∉(cxOfH CX P w K mg base N qual scope f cd A outer s H E).ex:=fun b z=>absurd (show b∈([]:List Addr) from z) (by simp)
 refine ⟨⟨e0.mod,S.kind,rfl,rfl,zqae _,fun y z c h1 h2=>?_,fun y hy=>?_,fun y c _ h=>?_,fun z=>Bool.noConfusion z,Around.frames_deeper e0.frames,.inr ⟨rfl,rfl⟩,fun b z=>absurd z (noA b),e0.bs,e0.bsz,fun b _ _=>noA b,fun b z=>absurd z (noA b),e0.funs,e0.frf⟩,
  rfl,e0.bare,Un.kept hk,⟨_,x.toInCall.ns,fun i y v h1 h2 h3=>?_⟩,fun y c h=>⟨_,x.cell y c h⟩,e0.hok.fresh (zqae _),fun y c h=>?_,fun p hp=>absurd (show p∈([]:List (Addr×Obj)) from hp) (by simp),e0.hok.kept hk,?_⟩
 ·exact name_of_addr x.apart (zqam h1) (zqam h2)
 ·have hy:scope.names.lookup y=some .cell\/scope.names.lookup y=some .free:=hy
  rcases hy with hy | hy
  ·exact cell_has hy
  ·exact absurd rfl (S.nofree _ (zqam hy))
 ·exact zqbq (x.above y c (zqam h))
 ·have hi:i < vs.length:=by
   unfold start at h2
   by_cases hi:i < vs.length
   ·exact hi
   ·rw [zqaw (by simpa using hi)] at h2
    rw [zqcl] at h2
    split at h2 <;> cases h2
  have ha:vs[i]?=some v:=by
   unfold start at h2
   rw [zqal (by simpa using hi),zqbg] at h2
   cases e:vs[i]? with
   | none=>rw [e] at h2;cases h2
   | some a=>rw [e] at h2;cases h2;rfl
  obtain ⟨u,hu,rv⟩:=r.get ha
  have hp:ps[i]?=some y:=by
   rw [<- S.pre,List.getElem?_take_of_lt (∅)];exact h1
  have ndP:ps.Nodup:=by rw [<- S.pre];exact S.nd.sublist (List.take_sublist _ _)
  refine ⟨u,rv,?_⟩
  rcases S.par y (zqba hp) with k | k
  ·exact .inl ⟨k,bindL_get ndP hp hu k⟩
  ·obtain ⟨c,e⟩:=cell_has (n:=s.heap.objs.size+1) k
   refine .inr ⟨.inl k,c,e,?_⟩
   have q:=x.cell y c e
   rw [bindC_get ndP hp hu (by show scope.names.lookup y≠_;rw [k];decide)] at q
   exact q
 ·exact e0.hok.fresh (zqbq (x.above y c (zqam h)))
 ·unfold start
  show _=N.length
  rw [zqau,zqaz,zqbn]
  omega
theorem fn_ofH {CX : CXT} {P : Program} {w : World} {K : PySem.W.Frag} {mg : Str -> Option Value} {base : Heap} {k : Nat} {f : Addr} {name qual : Str} {params : Arguments} {body : List Stmt} {scope : Scope} {dV kV doc pm cdv ct oc : Value} {an od : Option Addr}
    {osl:Array (Option Value)} {N ps:List Str} {sp:Sp} (lk:K.lookup f=some ⟨oc,od,.func (PySem.W.fnOf name qual params body scope dV kV doc pm an cdv ct),osl⟩) (hcd:PySem.W.codeIn K cdv qual=true) (S:FnScope N ps scope)
    (len:∀ vs H Q E,sp vs H Q E->vs.length=ps.length)
    (hbody:∀ (A:Around) (outer:List Env) (s:Shared) (H:Hp) (vs:List V) (Q:VK) (E:XK),RoomH k (A.deeper (envOfC qual scope s.heap.objs.size f cdv))->sp vs H Q E ->
      ∃ t,PSs (cxOfH CX P w K mg base N qual scope f cdv A outer s H E) body t/\t { nx:=fun _ H'=>Q .non H',rt:=Q } (start N vs) H) :
    FnOkH P w K mg base CX (k+1) f (PySem.W.fnOf name qual params body scope dV kV doc pm an cdv ct) ps sp:=by
  refine ⟨len,fun A outer s H args us vs Q E hr e0 hb r hsp=>?_⟩
  have hl:=len _ _ _ _ hsp
  have KX:K.In s.heap:=e0.mod.kin.keeps fun b o e=>(e0.bs b o e).1
  have lim:s.heap.NoLimit:=e0.mod.nolimit.keeps fun b o e=>(e0.bs b o e).1
  have hkind:∀ y∈ps.zip us,scope.names.lookup y.1=some .local\/(scope.names.lookup y.1=some .cell/\((cellsFrom (s.heap.objs.size+1) scope.names []).lookup y.1).isSome=true):=fun ⟨n,v⟩ hy=>by
    rcases S.par n (zqcy hy).1 with q | q
    · exact .inl q
    · exact .inr ⟨q,zqcn _ _ _ (.inl q)⟩
  refine codeAny_call_function hr.depth (KX _ _ lk) rfl S.co S.gen rfl (PySem.W.codeRec_of KX hcd) (hb _ _ _ _ ?_)
  refine wpAny_newFunctionEnv_cells S.kind hkind fun env he s1 x=>?_
  subst he
  refine ⟨lim.keeps x.toInCall.keep,codeAny_func ?_⟩
  obtain ⟨t,ht,hq⟩:=hbody A outer s H vs Q E (hr.deeper _) hsp
  have I:Inv (cxOfH CX P w K mg base N qual scope f cdv A outer s H E) [] (start N vs) H s1:=inv_startH S e0 hl r x
  refine zqbl (ht [] s1 (start N vs) H _ I hq) (fun fl s' hs=>?_) fun e s' hs=>hs
  have fin:∀ {σ':St} {H':Hp} {v:V} {u:Value},Inv (cxOfH CX P w K mg base N qual scope f cdv A outer s H E) [] σ' H' s'->RelV v u->Q v H'->CE outer P w H s Q u s' :=
    fun {σ' H' v u} J rv q=>⟨v,H',J.os,J.bare,J.base,J.hok,rv,q⟩
  cases fl with
  | ret u =>
    obtain ⟨v,σ',H',J,rv,q⟩:=hs
    exact fin J rv q
  | next =>
    obtain ⟨σ',H',J,q⟩:=hs
    exact fin (v:=V.non) (u:=Value.none) J rfl q
  | brk =>
    obtain ⟨_,_,_,q⟩:=hs
    exact False.elim q
  | cont =>
    obtain ⟨_,_,_,q⟩:=hs
    exact False.elim q
section
variable {X:Cx} {CX:CXT} {k:Nat} {f C:Addr} {fd:FuncData} {ps:List Str} {sp:Sp} {dvs:List V} {ds:List Value} {E:XK} {x m:Str} {p pos apos:Pos} {e o:Expr} {es:List Expr} {ta:TE} {t:TA}
theorem run_fnH {pins:List (Addr×Obj)} {σ:St} {H:Hp} {s:Shared} {Q:VK} {us:List Value} {vs:List V} (F:FnOkH X.prog X.w X.K X.mg X.base CX k f fd ps sp) (hr:RoomH k X.A) (hb:Binds X.K fd ps ds) (hd:Vals dvs ds) (hx:Passes CX X E) (I:Inv X pins σ H s) (r:Vals vs us) (h:sp (vs++dvs) H Q E):wpAny (model X.prog X.w) X.A (call (.ref f) us) (EP X pins σ Q) X.xe s:=by
 have r2:Vals (vs++dvs) (us++ds):=r.append hd
 have hl:(us++ds).length=ps.length:=by rw [<- r2.length];exact F.len _ _ _ _ h
 refine wpAny_call (zqca (F.run X.A X.stack s H ⟨us,[]⟩ (us++ds) (vs++dvs) Q E hr I.env0 (hb s us I.kIn hl) r2 h) fun r s' hq=>?_)
 cases r with
 | error e=>exact hx pins σ H s e s' I hq
 | ok fl =>
  cases fl with
  | ret u=>exact I.after hq
  | next=>exact False.elim hq
  | brk=>exact False.elim hq
  | cont=>exact False.elim hq
theorem pe_callH (F:FnOkH X.prog X.w X.K X.mg X.base CX k f fd ps sp) (hr:RoomH k X.A) (hg:Gl X x) (hm:X.mg x=some (.ref f)) (hk:PySem.W.keepIn X.K (.ref f)=true) (hb:Binds X.K fd ps ds) (hd:Vals dvs ds) (hx:Passes CX X E) (ha:PA X (e::es) t) (hdb:(x == ("__debug__" : Str))=false:=by decide) (he:starEach (e::es) X.env=(false,eval e X.env)::starEach es X.env:=by rfl) (hpl:(backTo pos (starEach es X.env)).any (·.1)=false:=by rfl):PE X (.Call (.Name x p) (e::es) [] pos) (tCall sp dvs E t):=by
 intro pins s σ H Q I h
 refine zqb3 (ld_glob I hg hm ?_ hdb)
 refine zqc5 (h₀:=X.base) I.ok.mod.kin hk (thn (ha pos pins s σ H _ I h) fun us s1 ⟨vs,H1,I1,r,q⟩=>⟨I1.kIn,?_⟩) he hpl
 exact run_fnH F hr hb hd hx I1 r q
end
end L2
end
section
namespace Ev
open L2
open PySem PySem.Spec PyProof.Rows
set_option genInjectivity true in
inductive D where
 | non | bl (b:Bool) | int (i:Int) | str (s:Str) | tup (ds:List D) | adr (n:Nat) | ls (ds:List D)
 deriving Inhabited
set_option genInjectivity true in
inductive MO where
 | lst (ds:List D) | scr (ds:List D) | dK (kvs:List (Key×D)) | dT (kvs:List (List Key×D)) | dF (kvs:List (List Key×D)) | xc (C:Addr) (fs:List (Str×D))
 deriving Inhabited
abbrev Mem:=List MO
abbrev En:=List (Option D)
inductive W where
 | d (x:D) | lv (ds:List D)
 deriving Inhabited
structure Exn where
 cls:Addr
 fs:List (Str×D)
inductive Out (α:Type) where
 | ok (a:α) (M:Mem) | err (x:Exn) (M:Mem) | stuck
noncomputable def Out.bind {α β:Type} (o:Out α) (f:α->Mem->Out β):Out β:=match o with
 | .ok a M=>f a M
 | .err x M=>.err x M
 | .stuck=>.stuck
noncomputable def Out.b0 {α β:Type} (o:Out α) (f:α->Mem->Out β):Out β:=match o with
 | .ok a M=>f a M
 | _=>.stuck
noncomputable def ScrL (K:PySem.W.Frag) (H:Hp) (a:Addr) (xs:List V):Prop :=
 (∃ o,H a=some (.frz o (.lst xs)))\/∃ (o:Obj) (its:Array Value) (n:Nat),K.lookup a=some o/\o.cls=.type "list" /\ o.dict=none/\o.data=.seq its n/\its.size<=sizeLine/\Vals xs its.toList
theorem ScrL.sq {K:PySem.W.Frag} {H:Hp} {a:Addr} {xs:List V} (h:ScrL K H a xs):SqL K H a xs:=by
 rcases h with ⟨o,h⟩ | h
 ·exact .inl (.inr ⟨o,h⟩)
 ·exact .inr h
mutual
noncomputable def RD (K:PySem.W.Frag) (ads:List Addr) (H:Hp):D->V->Prop
 | .non,v=>v=.non
 | .bl b,v=>v=.bl b
 | .int i,v=>v=.int i
 | .str s,v=>v=.str s
 | .tup ds,v=>∃ a xs,v=.ref a/\H a=some (.tup xs)/\RDs K ads H ds xs
 | .adr n,v=>∃ a,v=.ref a/\ads[n]?=some a
 | .ls ds,v=>∃ a xs,v=.ref a/\ScrL K H a xs/\RDs K ads H ds xs
noncomputable def RDs (K:PySem.W.Frag) (ads:List Addr) (H:Hp):List D->List V->Prop
 | [],xs=>xs=[]
 | d::ds,xs=>∃ x r,xs=x::r/\RD K ads H d x/\RDs K ads H ds r
end
section
variable (K:PySem.W.Frag) (ads:List Addr) (H:Hp)
def RKs {κ:Type}:List (κ×D)->List (κ×V)->Prop
 | [],xs=>xs=[]
 | p::ps,xs=>∃ x r,xs=x::r/\p.1=x.1/\RD K ads H p.2 x.2/\RKs ps r
def MOk (a:Addr):MO->Prop
 | .lst ds=>∃ xs,H a=some (.lst xs)/\RDs K ads H ds xs
 | .scr ds=>∃ o xs,H a=some (.frz o (.lst xs))/\RDs K ads H ds xs
 | .dK kvs=>∃ ks,H a=some (.dK ks)/\RKs K ads H kvs ks
 | .dT kvs=>∃ ks,H a=some (.dT ks)/\RKs K ads H kvs ks
 | .dF kvs=>∃ o ks,H a=some (.frz o (.dT ks))/\RKs K ads H kvs ks
 | .xc C fs=>∃ dx gs,H a=some (XO a C dx)/\H dx=some (.xd gs)/\RKs K ads H fs gs/\∃ D fI,XIn K C D fI (fs.map (·.1))
structure MRel (M:Mem):Prop where
 nd:∀ (i j:Nat) (a:Addr),ads[i]?=some a->ads[j]?=some a->i=j\/∃ C fs,M[i]?=some (.xc C fs)
 len:ads.length=M.length
 obj:∀ (n:Nat) (o:MO) (a:Addr),M[n]?=some o->ads[n]?=some a->MOk K ads H a o
def REn (ρ:En) (σ:L2.St):Prop:=∀ (i:Nat) (d:D),ρ[i]?=some (some d)->∃ v,σ[i]?=some (some v)/\RD K ads H d v
def RW:W->V->Prop
 | .d x,v=>RD K ads H x v
 | .lv ds,v=>∃ a xs,v=.ref a/\H a=some (.lst xs)/\a∉ads/\RDs K ads H ds xs
end
def Kept (ads:List Addr) (H H':Hp):Prop:=∀ b o,b∉ads->H b=some o->H' b=some o
noncomputable def TupK (H H':Hp):Prop:=∀ b xs,H b=some (.tup xs)->H' b=some (.tup xs)
structure Grow (ads ads':List Addr) (H H':Hp):Prop where
 pre:∃ r,ads'=ads++r
 new:∀ b∈ads',b∉ads->H b=none
 kept:Kept ads H H'
 tups:TupK H H'
 frz:∀ b o u,H b=some (.frz o u)->H' b=some (.frz o u)
theorem Grow.refl (ads:List Addr) (H:Hp):Grow ads ads H H:=⟨⟨[],by simp⟩,fun b h n=>absurd h n,fun _ _ _ h=>h,fun _ _ h=>h,fun _ _ _ h=>h⟩
theorem Grow.trans {a b c:List Addr} {H H1 H2:Hp} (g:Grow a b H H1) (k:Grow b c H1 H2):Grow a c H H2:=by
 obtain ⟨r,e⟩:=g.pre
 obtain ⟨r',e'⟩:=k.pre
 refine ⟨⟨r++r',by rw [e',e,zqb8]⟩,fun x h n=>?_,fun x o n h=>?_,fun x xs h=>k.tups x xs (g.tups x xs h),fun x o u h=>k.frz x o u (g.frz x o u h)⟩
 ·by_cases hb:x∈b
  ·exact g.new x hb n
  ·have:=k.new x h hb
   cases q:H x with
   | none=>rfl
   | some o=>rw [g.kept x o n q] at this;cases this
 ·refine k.kept x o (fun hb=>?_) (g.kept x o n h)
  rw [g.new x hb n] at h;cases h
class EX where
 post:PySem.W.Frag->List Addr->Hp->Exn->Mem->Prop
 shift:∀ {K:PySem.W.Frag} {ads ads':List Addr} {H H':Hp} {x:Exn} {M:Mem},post K ads H x M->Grow ads ads' H H'->post K ads' H' x M
@[reducible] noncomputable def never:EX:=⟨fun _ _ _ _ _=>False,fun h _=>h⟩
instance (priority:=low) exNever:EX:=never
@[reducible] def exOf (E:XK):EX:=⟨fun K ads H x M=>∀ H' ads' dx fs,Grow ads ads' H H'->MRel K ads' H' M->H' dx=some (.xd fs)->RKs K ads' H' x.fs fs->E (.ref x.cls) (some dx) H',fun h g H1 ads1 dx fs g1 m1 e r=>h H1 ads1 dx fs (g.trans g1) m1 e r⟩
section
variable {K:PySem.W.Frag} {ads ads':List Addr} {H H':Hp}
theorem Grow.get (g:Grow ads ads' H H') {n:Nat} {a:Addr} (h:ads[n]?=some a):ads'[n]?=some a:=by
 obtain ⟨r,e⟩:=g.pre
 rw [e,zqal (by have:=(zqak.mp h).1;exact this)]
 exact h
theorem Grow.scr (g:Grow ads ads' H H') {a:Addr} {xs:List V} (h:ScrL K H a xs):ScrL K H' a xs:=by
 rcases h with ⟨o,h⟩ | h
 ·exact .inl ⟨o,g.frz _ _ _ h⟩
 ·exact .inr h
mutual
theorem Grow.rd (g:Grow ads ads' H H'):∀ (d:D) (v:V),RD K ads H d v->RD K ads' H' d v
 | .non,_,h=>by unfold RD at *;exact h
 | .bl _,_,h=>by unfold RD at *;exact h
 | .int _,_,h=>by unfold RD at *;exact h
 | .str _,_,h=>by unfold RD at *;exact h
 | .adr n,v,h=>by unfold RD at *;obtain ⟨a,e,h⟩:=h;exact ⟨a,e,g.get h⟩
 | .tup ds,v,h=>by unfold RD at *;obtain ⟨a,xs,e,h,r⟩:=h;exact ⟨a,xs,e,g.tups _ _ h,Grow.rds g ds xs r⟩
 | .ls ds,v,h=>by unfold RD at *;obtain ⟨a,xs,e,h,r⟩:=h;exact ⟨a,xs,e,g.scr h,Grow.rds g ds xs r⟩
theorem Grow.rds (g:Grow ads ads' H H'):∀ (ds:List D) (vs:List V),RDs K ads H ds vs->RDs K ads' H' ds vs
 | [],_,h=>by unfold RDs at *;exact h
 | d::ds,vs,h=>by unfold RDs at *;obtain ⟨x,r,e,h1,h2⟩:=h;exact ⟨x,r,e,Grow.rd g d x h1,Grow.rds g ds r h2⟩
end
theorem Grow.rks {κ:Type} (g:Grow ads ads' H H'):∀ (ds:List (κ×D)) (vs:List (κ×V)),RKs K ads H ds vs->RKs K ads' H' ds vs
 | [],_,h=>by unfold RKs at *;exact h
 | d::ds,vs,h=>by unfold RKs at *;obtain ⟨x,r,e,h0,h1,h2⟩:=h;exact ⟨x,r,e,h0,g.rd d.2 x.2 h1,Grow.rks g ds r h2⟩
theorem Grow.ren (g:Grow ads ads' H H') {ρ:En} {σ:L2.St} (h:REn K ads H ρ σ):REn K ads' H' ρ σ:=fun i d e=>by
 obtain ⟨v,e1,r⟩:=h i d e
 exact ⟨v,e1,g.rd d v r⟩
theorem Grow.notin (g:Grow ads ads' H H') {a:Addr} {o:HO} (n:a∉ads) (e:H a=some o):a∉ads':=fun h=>by
 rw [g.new a h n] at e;cases e
theorem Grow.rw (g:Grow ads ads' H H') {w:W} {v:V} (h:RW K ads H w v):RW K ads' H' w v:=by
 cases w with
 | d x=>exact g.rd x v h
 | lv ds =>
  obtain ⟨a,xs,e,h,n,r⟩:=h
  exact ⟨a,xs,e,g.kept a _ n h,g.notin n h,g.rds ds xs r⟩
theorem RDs.len:∀ {ds:List D} {vs:List V},RDs K ads H ds vs->ds.length=vs.length
 | [],_,h=>by unfold RDs at h;subst h;rfl
 | d::ds,vs,h=>by unfold RDs at h;obtain ⟨x,r,e,h1,h2⟩:=h;subst e;simp [RDs.len h2]
theorem RDs.get:∀ {ds:List D} {vs:List V} {i:Nat} {d:D},RDs K ads H ds vs->ds[i]?=some d->∃ v,vs[i]?=some v/\RD K ads H d v
 | [],_,_,_,h,e=>by simp at e
 | d::ds,vs,0,d',h,e=>by unfold RDs at h;obtain ⟨x,r,rfl,h1,h2⟩:=h;simp at e;subst e;exact ⟨x,rfl,h1⟩
 | d::ds,vs,i+1,d',h,e=>by
  unfold RDs at h;obtain ⟨x,r,rfl,h1,h2⟩:=h
  obtain ⟨v,e',r'⟩:=RDs.get (i:=i) h2 (by simpa using e)
  exact ⟨v,by simpa using e',r'⟩
theorem RDs.app:∀ {ds es:List D} {vs ws:List V},RDs K ads H ds vs->RDs K ads H es ws->RDs K ads H (ds++es) (vs++ws)
 | [],_,vs,_,h,k=>by unfold RDs at h;subst h;exact k
 | d::ds,es,vs,ws,h,k=>by
  unfold RDs at h;obtain ⟨x,r,rfl,h1,h2⟩:=h
  show RDs K ads H (d::(ds++es)) (x::(r++ws))
  unfold RDs;exact ⟨x,_,rfl,h1,RDs.app h2 k⟩
theorem RDs.one {d:D} {v:V} (h:RD K ads H d v):RDs K ads H [d] [v]:=by
 unfold RDs;exact ⟨v,[],rfl,h,by unfold RDs;rfl⟩
theorem RDs.setAt:∀ {ds:List D} {vs:List V} (n:Nat) {d:D} {v:V},RDs K ads H ds vs->RD K ads H d v->RDs K ads H (ds.set n d) (vs.set n v)
 | [],vs,n,_,_,h,_=>by unfold RDs at h;subst h;simp;unfold RDs;rfl
 | d::ds,vs,0,_,_,h,k=>by unfold RDs at h;obtain ⟨x,r,rfl,h1,h2⟩:=h;simp only [List.set_cons_zero];unfold RDs;exact ⟨_,_,rfl,k,h2⟩
 | d::ds,vs,n+1,_,_,h,k=>by unfold RDs at h;obtain ⟨x,r,rfl,h1,h2⟩:=h;simp only [List.set_cons_succ];unfold RDs;exact ⟨_,_,rfl,h1,RDs.setAt n h2 k⟩
theorem MRel.there' {M:Mem} (m:MRel K ads H M) {a:Addr} (h:a∈ads):∃ o,H a=some o/\(∀ xs,o≠.tup xs)/\∀ xs,o≠.xd xs:=by
 obtain ⟨n,hn,e⟩:=List.mem_iff_getElem.mp h
 have e2:ads[n]?=some a:=by rw [zqa6 hn,e]
 have hM:n < M.length:=by rw [<- m.len];exact hn
 have h:=m.obj n M[n] a (zqa6 hM) e2
 cases q:M[n] with
 | lst ds=>rw [q] at h;obtain ⟨xs,h,r⟩:=h;exact ⟨_,h,(fun _ z=>by cases z),fun _ z=>by cases z⟩
 | scr ds=>rw [q] at h;obtain ⟨o,xs,h,r⟩:=h;exact ⟨_,h,(fun _ z=>by cases z),fun _ z=>by cases z⟩
 | dK ds=>rw [q] at h;obtain ⟨xs,h,r⟩:=h;exact ⟨_,h,(fun _ z=>by cases z),fun _ z=>by cases z⟩
 | dT ds=>rw [q] at h;obtain ⟨xs,h,r⟩:=h;exact ⟨_,h,(fun _ z=>by cases z),fun _ z=>by cases z⟩
 | dF ds=>rw [q] at h;obtain ⟨o,xs,h,r⟩:=h;exact ⟨_,h,(fun _ z=>by cases z),fun _ z=>by cases z⟩
 | xc C ds=>rw [q] at h;obtain ⟨dx,gs,h,r⟩:=h;exact ⟨_,h,(fun _ z=>by cases z),fun _ z=>by cases z⟩
theorem MRel.there {M:Mem} (m:MRel K ads H M) {a:Addr} (h:a∈ads):∃ o,H a=some o/\∀ xs,o≠.tup xs:=by
 obtain ⟨o,e,n,_⟩:=m.there' h
 exact ⟨o,e,n⟩
theorem MRel.xd {M:Mem} (m:MRel K ads H M) {a:Addr} {gs:List (Str×V)} (h:H a=some (.xd gs)):a∉ads:=fun z=>by
 obtain ⟨o,e,_,n⟩:=m.there' z
 rw [h] at e
 exact n gs (zqag e).symm
theorem MRel.grow {M:Mem} (m:MRel K ads H M) (g:Grow ads ads H H') (k:∀ a∈ads,H' a=H a):MRel K ads H' M:=⟨m.nd,m.len,fun n o a e1 e2=>by
 have h:=m.obj n o a e1 e2
 have ha:=k a (zqba e2)
 cases o with
 | lst ds=>obtain ⟨xs,h,r⟩:=h;exact ⟨xs,ha.trans h,g.rds _ _ r⟩
 | scr ds=>obtain ⟨o,xs,h,r⟩:=h;exact ⟨o,xs,ha.trans h,g.rds _ _ r⟩
 | dK ds=>obtain ⟨xs,h,r⟩:=h;exact ⟨xs,ha.trans h,g.rks _ _ r⟩
 | dT ds=>obtain ⟨xs,h,r⟩:=h;exact ⟨xs,ha.trans h,g.rks _ _ r⟩
 | dF ds=>obtain ⟨o,xs,h,r⟩:=h;exact ⟨o,xs,ha.trans h,g.rks _ _ r⟩
 | xc C ds=>obtain ⟨dx,gs,h,hd,r,x⟩:=h;exact ⟨dx,gs,ha.trans h,g.kept _ _ (m.xd hd) hd,g.rks _ _ r,x⟩⟩
theorem MRel.fresh {M:Mem} (m:MRel K ads H M) {p:Addr} (h:H p=none):p∉ads:=fun z=>by
 obtain ⟨o,e,_⟩:=m.there z;rw [h] at e;cases e
theorem Grow.new1 {M:Mem} (m:MRel K ads H M) {p:Addr} {o:HO} (h:H p=none):Grow ads ads H (upd H p o) :=
 ⟨⟨[],by simp⟩,fun b h n=>absurd h n,fun b u n e=>by rw [upd_ne (fun z=>by subst z;rw [h] at e;cases e)];exact e,fun b xs e=>by rw [upd_ne (fun z=>by subst z;rw [h] at e;cases e)];exact e,fun b u x e=>by rw [upd_ne (fun z=>by subst z;rw [h] at e;cases e)];exact e⟩
theorem MRel.new1 {M:Mem} (m:MRel K ads H M) {p:Addr} {o:HO} (h:H p=none):MRel K ads (upd H p o) M :=
 m.grow (Grow.new1 m h) fun a ha=>upd_ne (fun z=>by subst z;exact m.fresh h ha)
mutual
theorem RD.wide {a:Addr}:∀ (d:D) (v:V),RD K ads H d v->RD K (ads++[a]) H d v
 | .non,_,h=>by unfold RD at *;exact h
 | .bl _,_,h=>by unfold RD at *;exact h
 | .int _,_,h=>by unfold RD at *;exact h
 | .str _,_,h=>by unfold RD at *;exact h
 | .adr n,v,h=>by
  unfold RD at *;obtain ⟨b,e,h⟩:=h
  exact ⟨b,e,by rw [zqal (zqak.mp h).1];exact h⟩
 | .tup ds,v,h=>by unfold RD at *;obtain ⟨b,xs,e,h,r⟩:=h;exact ⟨b,xs,e,h,RDs.wide ds xs r⟩
 | .ls ds,v,h=>by unfold RD at *;obtain ⟨b,xs,e,h,r⟩:=h;exact ⟨b,xs,e,h,RDs.wide ds xs r⟩
theorem RDs.wide {a:Addr}:∀ (ds:List D) (vs:List V),RDs K ads H ds vs->RDs K (ads++[a]) H ds vs
 | [],_,h=>by unfold RDs at *;exact h
 | d::ds,vs,h=>by unfold RDs at *;obtain ⟨x,r,e,h1,h2⟩:=h;exact ⟨x,r,e,RD.wide d x h1,RDs.wide ds r h2⟩
end
theorem RKs.wide {κ:Type} {a:Addr}:∀ (ds:List (κ×D)) (vs:List (κ×V)),RKs K ads H ds vs->RKs K (ads++[a]) H ds vs
 | [],_,h=>by unfold RKs at *;exact h
 | d::ds,vs,h=>by unfold RKs at *;obtain ⟨x,r,e,h0,h1,h2⟩:=h;exact ⟨x,r,e,h0,RD.wide d.2 x.2 h1,RKs.wide ds r h2⟩
theorem MOk.wide {a b:Addr} {o:MO} (h:MOk K ads H b o):MOk K (ads++[a]) H b o:=by
 cases o with
 | lst ds=>obtain ⟨xs,h,r⟩:=h;exact ⟨xs,h,r.wide⟩
 | scr ds=>obtain ⟨o,xs,h,r⟩:=h;exact ⟨o,xs,h,r.wide⟩
 | dK ds=>obtain ⟨xs,h,r⟩:=h;exact ⟨xs,h,r.wide⟩
 | dT ds=>obtain ⟨xs,h,r⟩:=h;exact ⟨xs,h,r.wide⟩
 | dF ds=>obtain ⟨o,xs,h,r⟩:=h;exact ⟨o,xs,h,r.wide⟩
 | xc C ds=>obtain ⟨dx,gs,h,hd,r,x⟩:=h;exact ⟨dx,gs,h,hd,r.wide,x⟩
theorem MRel.pushX {M:Mem} {o:MO} {a:Addr} (m:MRel K ads H M) (n:a∉ads\/∃ C dx fs,o=.xc C fs/\H a=some (XO a C dx)) (h:MOk K ads H a o):MRel K (ads++[a]) H (M++[o]) where
 nd:=fun i j b e1 e2=>by
  have li:=(zqak.mp e1).1
  have lj:=(zqak.mp e2).1
  rw [zqau,List.length_singleton] at li lj
  have old:∀ k,k < ads.length->(ads++[a])[k]?=some b->ads[k]?=some b:=fun k hk e=>by rw [zqal hk] at e;exact e
  have new:∀ k,¬ k < ads.length->k < ads.length+1->(ads++[a])[k]?=some b->b=a:=fun k hk hk2 e=>by
   obtain rfl:k=ads.length:=∅
   rw [zqaw (zqae _)] at e
   simp at e;exact e.symm
  have isx:∀ k,k < ads.length->ads[k]?=some a->(∃ C dx,H a=some (XO a C dx))->∃ C fs,M[k]?=some (.xc C fs):=fun k hk e ⟨C,dx,hx⟩=>by
   have hM:k < M.length:=by rw [<- m.len];exact hk
   have q:=m.obj k M[k] a (zqa6 hM) e
   cases w:M[k] with
   | lst ds=>rw [w] at q;obtain ⟨xs,q,_⟩:=q;rw [hx] at q;cases q
   | scr ds=>rw [w] at q;obtain ⟨o,xs,q,_⟩:=q;rw [hx] at q;cases q
   | dK ds=>rw [w] at q;obtain ⟨xs,q,_⟩:=q;rw [hx] at q;cases q
   | dT ds=>rw [w] at q;obtain ⟨xs,q,_⟩:=q;rw [hx] at q;cases q
   | dF ds=>rw [w] at q;obtain ⟨o,xs,q,_⟩:=q;rw [hx] at q;cases q
   | xc C fs=>exact ⟨C,fs,by rw [zqa6 hM,w]⟩
  by_cases hi:i < ads.length
  ·by_cases hj:j < ads.length
   ·rcases m.nd i j b (old i hi e1) (old j hj e2) with z | ⟨C,fs,z⟩
    ·exact .inl z
    ·exact .inr ⟨C,fs,by rw [zqal (by rw [<- m.len];exact hi)];exact z⟩
   ·obtain rfl:=new j hj lj e2
    rcases n with n | ⟨C,dx,fs,rfl,hx⟩
    ·exact absurd (zqba (old i hi e1)) n
    ·obtain ⟨C,fs,z⟩:=isx i hi (old i hi e1) ⟨C,dx,hx⟩
     exact .inr ⟨C,fs,by rw [zqal (by rw [<- m.len];exact hi)];exact z⟩
  ·obtain rfl:=new i hi li e1
   by_cases hj:j < ads.length
   ·rcases n with n | ⟨C,dx,fs,rfl,hx⟩
    ·exact absurd (zqba (old j hj e2)) n
    ·refine .inr ⟨C,fs,?_⟩
     obtain rfl:i=M.length:=by rw [<- m.len];omega
     rw [zqaw (zqae _)]
     simp
   ·exact .inl (∅)
 len:=by simp [m.len]
 obj:=fun i o' b e1 e2=>by
  by_cases hi:i < M.length
  ·rw [zqal hi] at e1
   rw [zqal (by rw [m.len];exact hi)] at e2
   exact (m.obj i o' b e1 e2).wide
  ·have hi':i=M.length:=by
    have:=(zqak.mp e1).1
    simp at this;omega
   subst hi'
   rw [zqaw (zqae _)] at e1
   rw [zqaw (by rw [m.len];exact zqae _)] at e2
   simp [m.len] at e1 e2
   subst e1 e2
   exact h.wide
theorem MRel.push {M:Mem} {o:MO} {a:Addr} (m:MRel K ads H M) (n:a∉ads) (h:MOk K ads H a o):MRel K (ads++[a]) H (M++[o]):=m.pushX (.inl n) h
theorem MRel.write {M:Mem} {n:Nat} {a:Addr} {u o:MO} {ho:HO} (m:MRel K ads H M) (e:M[n]?=some u) (ea:ads[n]?=some a) (nf:∀ o x,H a≠some (.frz o x)) (hn:MOk K ads (upd H a ho) a o) (hu:∀ C fs,u≠.xc C fs:=by intro _ _ z;cases z):Grow ads ads H (upd H a ho)/\MRel K ads (upd H a ho) (M.set n o):=by
  have hin:a∈ads:=zqba ea
  obtain ⟨o1,e1,nt⟩:=m.there hin
  have g : Grow ads ads H (upd H a ho) := ⟨⟨[], by simp⟩, fun b h n => absurd h n, fun b x nb h => by rw [upd_ne (by intro z; subst z; exact nb hin)]; exact h, fun b xs h => by
      rw [upd_ne (fun z=>by subst z;rw [e1] at h;exact nt xs (zqag h))];exact h,fun b o u h=>by rw [upd_ne (fun z=>by subst z;exact nf _ _ h)];exact h⟩
  have ne:∀ (i:Nat) (o':MO) (b:Addr),i≠n->M[i]?=some o'->ads[i]?=some b->b≠a:=fun i o' b hi x1 x2 z=>by
    subst z
    rcases m.nd n i b ea x2 with q | ⟨C,fs,q⟩
    · exact hi q.symm
    · rw [e] at q;exact hu C fs (zqag q)
  refine ⟨g,fun i j b x1 x2=>?_,by rw [zqb5];exact m.len,fun i o' b x1 x2=>?_⟩
  · rcases m.nd i j b x1 x2 with z | ⟨C,fs,z⟩
    · exact .inl z
    · refine .inr ⟨C,fs,?_⟩
      rw [zqbe (fun q=>?_)]
      · exact z
      · subst q;rw [e] at z;exact hu C fs (zqag z)
  by_cases hi:i=n
  · subst hi
    rw [ea] at x2;cases x2
    rw [zqbf (zqak.mp e).1] at x1
    cases x1;exact hn
  · rw [zqbe (zqbd hi)] at x1
    have hb:b≠a:=ne i o' b hi x1 x2
    have h:=m.obj i o' b x1 x2
    cases o' with
    | lst ds=>obtain ⟨xs,h,r⟩:=h;exact ⟨xs,by rw [upd_ne hb];exact h,g.rds _ _ r⟩
    | scr ds=>obtain ⟨o,xs,h,r⟩:=h;exact ⟨o,xs,by rw [upd_ne hb];exact h,g.rds _ _ r⟩
    | dK ds=>obtain ⟨xs,h,r⟩:=h;exact ⟨xs,by rw [upd_ne hb];exact h,g.rks _ _ r⟩
    | dT ds=>obtain ⟨xs,h,r⟩:=h;exact ⟨xs,by rw [upd_ne hb];exact h,g.rks _ _ r⟩
    | dF ds=>obtain ⟨o,xs,h,r⟩:=h;exact ⟨o,xs,by rw [upd_ne hb];exact h,g.rks _ _ r⟩
    | xc C ds=>obtain ⟨dx,gs,h,hd,r,x⟩:=h;exact ⟨dx,gs,by rw [upd_ne hb];exact h,g.kept _ _ (m.xd hd) hd,g.rks _ _ r,x⟩
end
mutual
noncomputable def pyD (M:Mem):Nat->D->Option PyData
 | _,.non=>some .none
 | _,.bl b=>some (.bool b)
 | _,.int i=>some (.int i)
 | _,.str s=>some (.str s)
 | 0,.tup _=>none
 | 0,.adr _=>none
 | 0,.ls _=>none
 | n+1,.ls ds=>(pyDs M n ds).map .list
 | n+1,.tup ds=>(pyDs M n ds).map .tuple
 | n+1,.adr k=>match M[k]? with
  | some (.lst ds)=>(pyDs M n ds).map .list
  | some (.scr ds)=>(pyDs M n ds).map .list
  | _=>none
noncomputable def pyDs (M:Mem):Nat->List D->Option (List PyData)
 | _,[]=>some []
 | n,d::ds=>match pyD M n d,pyDs M n ds with
  | some p,some ps=>some (p::ps)
  | _,_=>none
end
def pyW (M:Mem):W->Option PyData
 | .d x=>pyD M 30 x
 | .lv ds=>(pyDs M 30 ds).map .list
inductive BOp where
 | add | sub | mul | fdiv | mod | pow
 deriving DecidableEq
inductive COp where
 | eq | ne | lt | le | gt | ge | isN | notN | isin | notin
 deriving DecidableEq
inductive Ty where
 | int | bool | str | tuple | list | dict | none
 deriving DecidableEq
inductive Bi where
 | len | max2 | min2 | int1 | list1 | tuple1 | repr1 | isi (t:Ty) | all1 | any1 | dict1 | min1 | max1 | sort1
 deriving DecidableEq
inductive Me where
 | append | insert | reverse | extend | remove | clear | pop
 deriving DecidableEq
inductive SK where
 | seq | rng1 | rng2 | enum | zip | rngd | keys | vals
 deriving DecidableEq
inductive IX where
 | one (x:Str) | ve | many (xs:List Str)
 deriving DecidableEq
mutual
inductive C where
 | var (i:Nat)
 | cst (d:D)
 | bin (op:BOp) (a b:C)
 | cmp (op:COp) (a b:C)
 | chain (o1 o2:COp) (a b c:C)
 | conj (cs:List C) | disj (cs:List C) | neg (a:C)
 | ite (c:Tst) (a b:C)
 | tup (cs:List C) | lst (cs:List C)
 | sub (a b:C)
 | call (f:Nat) (cs:List C)
 | bi (b:Bi) (cs:List C)
 | me (m:Me) (o:C) (cs:List C)
 | dct (ks:List Str) (cs:List C)
 | rng (tp:Bool) (cs:List C)
 | glo (x:Str) (v:Int)
 | isTr (ng:Bool) (a:C)
 | xf (a:C) (f:Str)
 | isx (a:C) (k:IX) (tb:List (Addr×Bool))
 | hcall (f:Nat) (cs:List C)
 | comp (k:SK) (src:List C) (tg:List Nat) (cond:Option Tst) (elt:C) (cap:List (Option Nat))
inductive Tst where
 | val (c:C) | conj (ts:List Tst) | disj (ts:List Tst) | neg (a:Tst)
end
instance (n:Nat):OfNat C n:=⟨.var n⟩
abbrev C.kn (k:Int):C:=.cst (.int k)
abbrev C.ks (i:Nat) (k:Int):C:=.sub (.var i) (.cst (.int k))
noncomputable def seqW (M:Mem):W->Option (Bool×List D)
 | .lv ds=>some (true,ds)
 | .d (.tup ds)=>some (false,ds)
 | .d (.ls ds)=>some (true,ds)
 | .d (.adr n)=>match M[n]? with
  | some (.lst ds)=>some (true,ds)
  | some (.scr ds)=>some (true,ds)
  | _=>none
 | _=>none
noncomputable def lstW (M:Mem):W->Option (List D)
 | .lv ds=>some ds
 | .d (.adr n)=>match M[n]? with
  | some (.lst ds)=>some ds
  | _=>none
 | _=>none
noncomputable def own:W->Mem->Out D
 | .d x,M=>.ok x M
 | .lv ds,M=>.ok (.adr M.length) (M++[.lst ds])
def ixD (ds:List D) (i:Int):Option D:=atI ds i
def binW (op:BOp) (a b:W) (M:Mem):Out W :=
 match op,a,b with
 | .add,.d (.int i),.d (.int j)=>.ok (.d (.int (i+j))) M
 | .sub,.d (.int i),.d (.int j)=>.ok (.d (.int (i - j))) M
 | .mul,.d (.int i),.d (.int j)=>if (-(2 ^ 64) < i/\i < 2 ^ 64)\/(-(2 ^ 64) < j/\j < 2 ^ 64) then .ok (.d (.int (i * j))) M else .stuck
 | .fdiv,.d (.int i),.d (.int j)=>if 0 < j/\j < 1073741824 then .ok (.d (.int (i / j))) M else .stuck
 | .mod,.d (.int i),.d (.int j)=>if 0 < j then .ok (.d (.int (i % j))) M else .stuck
 | .pow,.d (.int i),.d (.int j)=>if 0<=j/\j<=1000000/\i.natAbs < 2 ^ 64 then .ok (.d (.int (i ^ j.toNat))) M else .stuck
 | .add,.d (.tup xs),.d (.tup ys)=>if xs.length+ys.length<=sizeLine then .ok (.d (.tup (xs++ys))) M else .stuck
 | .add,a,b=>match lstW M a,lstW M b with
  | some xs,some ys=>if xs.length+ys.length<=sizeLine then .ok (.lv (xs++ys)) M else .stuck
  | _,_=>.stuck
 | .mul,a,.d (.int k)=>match lstW M a with
  | some xs=>if -(2 ^ 63)<=k/\k < 2 ^ 63/\xs.length * k.toNat<=sizeLine then .ok (.lv (List.replicate k.toNat xs).flatten) M else .stuck
  | none=>.stuck
 | _,_,_=>.stuck
noncomputable def inPy (p:PyData):List PyData->Bool
 | []=>false
 | q::qs=>PyData.eqv q p || inPy p qs
noncomputable def dctW (M:Mem):W->Option (List (Key×D))
 | .d (.adr n)=>match M[n]? with
  | some (.dK kvs)=>some kvs
  | _=>none
 | _=>none
noncomputable def keyW:W->Option Key
 | .d (.int i)=>some (Sum.inl i)
 | .d (.str s)=>some (Sum.inr s)
 | _=>none
noncomputable def getK {κ:Type} [DecidableEq κ] (kvs:List (κ×D)) (k:κ):Option D:=(kvs.find? fun p=>decide (p.1=k)).map (·.2)
def eqKs (M:Mem) (kb:List (Key×D)):List (Key×D)->Option Bool
 | []=>some true
 | (k,v)::r=>match getK kb k with
  | none=>some false
  | some y=>match pyD M 30 v,pyD M 30 y with
   | some p,some q=>if SeqAt.shaped p=true/\SeqAt.shaped q=true then (eqKs M kb r).map (PyData.eqv p q && ·) else none
   | _,_=>none
def cmpW (op:COp) (a b:W) (M:Mem):Out Bool :=
 match op with
 | .eq=>match pyW M a,pyW M b with
  | some p,some q=>if SeqAt.shaped p=true/\SeqAt.shaped q=true then .ok (PyData.eqv p q) M else .stuck
  | _,_=>match dctW M a,dctW M b with
   | some ka,some kb=>match eqKs M kb ka with
    | some r=>.ok (ka.length == kb.length && r) M
    | none=>.stuck
   | _,_=>.stuck
 | .ne=>match pyW M a,pyW M b with
  | some p,some q=>if SeqAt.shaped p=true/\SeqAt.shaped q=true then .ok (!PyData.eqv p q) M else .stuck
  | _,_=>.stuck
 | .lt=>match a,b with
  | .d (.int i),.d (.int j)=>.ok (decide (i < j)) M
  | .d (.str x),.d (.str y)=>.ok (decide (x.cps.toList < y.cps.toList)) M
  | _,_=>.stuck
 | .le=>match a,b with
  | .d (.int i),.d (.int j)=>.ok (decide (i<=j)) M
  | .d (.str x),.d (.str y)=>.ok (!decide (y.cps.toList < x.cps.toList)) M
  | _,_=>.stuck
 | .gt=>match a,b with
  | .d (.int i),.d (.int j)=>.ok (decide (j < i)) M
  | _,_=>.stuck
 | .ge=>match a,b with
  | .d (.int i),.d (.int j)=>.ok (decide (j<=i)) M
  | _,_=>.stuck
 | .isN=>match a with
  | .d .non=>.ok true M
  | _=>.ok false M
 | .notN=>match a with
  | .d .non=>.ok false M
  | _=>.ok true M
 | .isin=>match pyW M a,seqW M b with
  | some p,some (_,ds)=>match pyDs M 30 ds with
   | some qs=>if SeqAt.shaped p=true/\qs.all SeqAt.shaped=true then .ok (inPy p qs) M else .stuck
   | none=>.stuck
  | _,none=>match keyW a,dctW M b with
   | some k,some kvs=>.ok (getK kvs k).isSome M
   | _,_=>.stuck
  | _,_=>.stuck
 | .notin=>match pyW M a,seqW M b with
  | some p,some (_,ds)=>match pyDs M 30 ds with
   | some qs=>if SeqAt.shaped p=true/\qs.all SeqAt.shaped=true then .ok (!inPy p qs) M else .stuck
   | none=>.stuck
  | _,none=>match keyW a,dctW M b with
   | some k,some kvs=>.ok (!(getK kvs k).isSome) M
   | _,_=>.stuck
  | _,_=>.stuck
def truW (M:Mem):W->Option Bool
 | .d .non=>some false
 | .d (.bl b)=>some b
 | .d (.int i)=>some (i != 0)
 | w=>(seqW M w).map fun p=>!p.2.isEmpty
def subW (a b:W) (M:Mem):Out W :=
  match b with
  | .d (.int i)=>match seqW M a with
    | some (_,ds)=>match ixD ds i with
      | some d=>.ok (.d d) M
      | none=>.stuck
    | none=>match a with
      | .d (.str s) => if s.length <= sizeLine then match atI s.cps.toList i with
          | some c=>.ok (.d (.str ⟨#[c]⟩)) M
          | none=>.stuck
        else .stuck
      | .d (.adr n)=>match M[n]? with
        | some (.dK kvs)=>match getK kvs (Sum.inl i:Key) with
          | some d=>.ok (.d d) M
          | none=>.stuck
        | _=>.stuck
      | _=>.stuck
  | .d (.str k)=>match a with
    | .d (.adr n)=>match M[n]? with
      | some (.dK kvs)=>match (kvs.find? fun p=>decide (p.1=(Sum.inr k:Key))).map (·.2) with
        | some d=>.ok (.d d) M
        | none=>.stuck
      | _=>.stuck
    | _=>.stuck
  | _=>.stuck
noncomputable def tagW (M:Mem):W->Option Ty
 | .lv _=>some .list
 | .d .non=>some .none
 | .d (.bl _)=>some .bool
 | .d (.int _)=>some .int
 | .d (.str _)=>some .str
 | .d (.tup _)=>some .tuple
 | .d (.ls _)=>none
 | .d (.adr n)=>match M[n]? with
  | some (.lst _)=>some .list
  | some (.scr _)=>some .list
  | some (.dK _)=>some .dict
  | some (.dT _)=>some .dict
  | some (.dF _)=>none
  | some (.xc _ _)=>none
  | none=>none
noncomputable def blsD:List D->Option (List Bool)
 | []=>some []
 | .bl b::ds=>(blsD ds).map (b::·)
 | _::_=>none
noncomputable def intsD:List D->Option (List Int)
 | []=>some []
 | .int b::ds=>(intsD ds).map (b::·)
 | _::_=>none
noncomputable def putD {κ:Type} [DecidableEq κ] (kvs:List (κ×D)) (k:κ) (v:D):List (κ×D) :=
 if (kvs.any fun kv=>decide (kv.1=k))=true then kvs.map (fun kv=>if kv.1=k then (kv.1,v) else kv) else kvs++[(k,v)]
noncomputable def pairD:D->Option (Key×D)
 | .tup [.int i,d]=>some (Sum.inl i,d)
 | .tup [.str x,d]=>some (Sum.inr x,d)
 | _=>none
def prsD (acc:List (Key×D)):List D->Option (List (Key×D))
 | []=>some acc
 | d::ds=>match pairD d with
  | some (k,x)=>prsD (putD acc k x) ds
  | none=>none
def biW (b:Bi) (ws:List W) (M:Mem):Out W :=
 match b,ws with
 | .len,[w]=>match seqW M w with
  | some (_,ds)=>.ok (.d (.int ds.length)) M
  | none=>match w with
   | .d (.str x)=>if x.length<=sizeLine then .ok (.d (.int x.length)) M else .stuck
   | _=>.stuck
 | .all1,[w]=>match seqW M w with
  | some (_,ds)=>match blsD ds with
   | some bs=>.ok (.d (.bl (bs.all id))) M
   | none=>.stuck
  | none=>.stuck
 | .any1,[w]=>match seqW M w with
  | some (_,ds)=>match blsD ds with
   | some bs=>.ok (.d (.bl (bs.any id))) M
   | none=>.stuck
  | none=>.stuck
 | .sort1,[w]=>match seqW M w with
  | some (true,ds)=>match intsD ds with
   | some is=>if is.length < 64 then .ok (.lv ((L2.srtI is).map D.int)) M else .stuck
   | none=>.stuck
  | _=>.stuck
 | .min1,[w]=>match seqW M w with
  | some (_,ds)=>match intsD ds with
   | some (i::is)=>.ok (.d (.int (is.foldl (fun a b=>if b < a then b else a) i))) M
   | _=>.stuck
  | none=>.stuck
 | .max1,[w]=>match seqW M w with
  | some (_,ds)=>match intsD ds with
   | some (i::is)=>.ok (.d (.int (is.foldl (fun a b=>if a < b then b else a) i))) M
   | _=>.stuck
  | none=>.stuck
 | .max2,[.d (.int i),.d (.int j)]=>.ok (.d (.int (if j > i then j else i))) M
 | .min2,[.d (.int i),.d (.int j)]=>.ok (.d (.int (if j < i then j else i))) M
 | .int1,[.d (.int i)]=>.ok (.d (.int i)) M
 | .int1,[.d (.bl k)]=>.ok (.d (.int (if k then 1 else 0))) M
 | .list1,[w]=>match seqW M w with
  | some (_,ds)=>.ok (.lv ds) M
  | none=>.stuck
 | .tuple1,[w]=>match seqW M w with
  | some (_,ds)=>.ok (.d (.tup ds)) M
  | none=>.stuck
 | .repr1,[w]=>match pyW M w with
  | some p=>if p.showable=true/\p.depth<=40/\p.shown.length<=sizeLine then .ok (.d (.str p.shown)) M else .stuck
  | none=>.stuck
 | .dict1,[w]=>match dctW M w with
  | some kvs=>.ok (.d (.adr M.length)) (M++[.dK kvs])
  | none=>match seqW M w with
   | some (true,ds)=>match prsD [] ds with
    | some kvs=>.ok (.d (.adr M.length)) (M++[.dK kvs])
    | none=>.stuck
   | _=>.stuck
 | .isi t,[w]=>match tagW M w with
  | some g=>.ok (.d (.bl (decide (g=t) || (decide (g=.bool) && decide (t=.int))))) M
  | none=>.stuck
 | _,_=>.stuck
noncomputable def rngArg:List W->Option (Int×Int)
 | [.d (.int i),.d (.int j)]=>some (i,j)
 | [.d (.int j)]=>some (0,j)
 | _=>none
noncomputable def rngD (i:Int) (n:Nat):List D:=(List.range n).map fun k=>D.int (i+((k:Nat):Int))
noncomputable def rngOut (tp:Bool) (ds:List D):W:=if tp=true then .d (.tup ds) else .lv ds
def rngW (tp:Bool) (ws:List W) (M:Mem):Out W:=match rngArg ws with
 | some (i,j)=>if (-(2 ^ 62)<=i/\i < 2 ^ 62/\-(2 ^ 62)<=j/\j < 2 ^ 62)/\(j - i).toNat<=2 ^ 24 then .ok (rngOut tp (rngD i (j - i).toNat)) M else .stuck
 | none=>.stuck
def meW (m:Me) (o:W) (ws:List D) (M:Mem):Out W :=
 match o with
 | .d (.adr n)=>match M[n]? with
  | some (.lst ds)=>match m,ws with
   | .append,[x]=>if ds.length < sizeLine then .ok (.d .non) (M.set n (.lst (ds++[x]))) else .stuck
   | .insert,[.int i,x]=>if ds.length < sizeLine/\0<=i/\i<=ds.length then .ok (.d .non) (M.set n (.lst (ds.take i.toNat++x::ds.drop i.toNat))) else .stuck
   | .reverse,[]=>.ok (.d .non) (M.set n (.lst ds.reverse))
   | .clear,[]=>.ok (.d .non) (M.set n (.lst []))
   | .pop,[]=>match ds[ds.length - 1]? with
    | some d=>.ok (.d d) (M.set n (.lst ds.dropLast))
    | none=>.stuck
   | .extend,[.adr k]=>match M[k]? with
    | some (.lst es)=>if ds.length+es.length<=sizeLine then .ok (.d .non) (M.set n (.lst (ds++es))) else .stuck
    | _=>.stuck
   | .extend,[.tup es]=>if ds.length+es.length<=sizeLine then .ok (.d .non) (M.set n (.lst (ds++es))) else .stuck
   | .remove,[.int i]=>match intsD ds with
    | some is=>if i∈is then .ok (.d .non) (M.set n (.lst ((is.erase i).map D.int))) else .stuck
    | none=>.stuck
   | _,_=>.stuck
  | _=>.stuck
 | _=>.stuck
inductive Z1 where
 | items (ds:List D) | at (n:Nat)
noncomputable def seqZ (M:Mem):Z1->Option (List D)
 | .items ds=>some ds
 | .at n=>match M[n]? with
  | some (.lst ds)=>some ds
  | some (.scr ds)=>some ds
  | _=>none
def z1W (M:Mem):W->Option Z1
 | .lv ds=>some (.items ds)
 | .d (.tup ds)=>some (.items ds)
 | .d (.ls ds)=>some (.items ds)
 | .d (.adr n)=>if (seqW M (.d (.adr n))).isSome then some (.at n) else none
 | _=>none
noncomputable def zipAt (xs ys:List D) (i:Nat):Option D:=match xs[i]?,ys[i]? with
 | some x,some y=>some (.tup [x,y])
 | _,_=>none
inductive It where
 | at (n:Nat) | items (ds:List D) | rng (lo:Int) (n:Nat) | enumAt (n:Nat) | enumIt (ds:List D) | zip (a b:Z1)
def itemAt (M:Mem) (i:Nat):It->Option (Option D)
 | .at n=>match M[n]? with
  | some (.lst ds)=>some ds[i]?
  | some (.scr ds)=>some ds[i]?
  | _=>none
 | .items ds=>some ds[i]?
 | .rng lo n=>some (if i < n then some (.int (lo+i)) else none)
 | .enumAt n=>match M[n]? with
  | some (.lst ds)=>some (ds[i]?.map fun d=>.tup [.int i,d])
  | some (.scr ds)=>some (ds[i]?.map fun d=>.tup [.int i,d])
  | _=>none
 | .enumIt ds=>some (ds[i]?.map fun d=>.tup [.int i,d])
 | .zip a b=>match seqZ M a,seqZ M b with
  | some xs,some ys=>some (zipAt xs ys i)
  | _,_=>none
def itLen (M:Mem):It->Nat
 | .at n=>match M[n]? with
  | some (.lst ds)=>ds.length
  | some (.scr ds)=>ds.length
  | _=>0
 | .items ds=>ds.length
 | .rng _ n=>n
 | .enumAt n=>match M[n]? with
  | some (.lst ds)=>ds.length
  | some (.scr ds)=>ds.length
  | _=>0
 | .enumIt ds=>ds.length
 | .zip a b=>match seqZ M a,seqZ M b with
  | some xs,some ys=>min xs.length ys.length
  | _,_=>0
def kD:Key->D
 | .inl i=>.int i
 | .inr x=>.str x
def keyT (p:List Key×D):D:=.tup (p.1.map kD)
noncomputable def keysD:List D->Option (List Key)
 | []=>some []
 | .int i::ds=>(keysD ds).map (Sum.inl i::·)
 | .str x::ds=>(keysD ds).map (Sum.inr x::·)
 | _::_=>none
def tKey:W->Option (List Key)
 | .d (.tup ds)=>keysD ds
 | _=>none
def putTW (a b:W) (d:D) (M:Mem):Out Unit:=match a with
 | .d (.adr n)=>match M[n]?,tKey b with
  | some (.dT kvs),some k=>if kvs.length < sizeLine then .ok () (M.set n (.dT (putD kvs k d))) else .stuck
  | _,_=>.stuck
 | _=>.stuck
noncomputable def dwnD (i:Int) (n:Nat):List D:=(List.range n).map fun k=>.int (i - (k:Nat))
def srcW (k:SK) (ws:List W) (M:Mem):Out It :=
 match k,ws with
 | .seq,[.lv ds]=>.ok (.items ds) M
 | .seq,[.d (.tup ds)]=>.ok (.items ds) M
 | .seq,[.d (.ls ds)]=>.ok (.items ds) M
 | .seq,[.d (.adr n)]=>if (seqW M (.d (.adr n))).isSome then .ok (.at n) M else .stuck
 | .rng1,[.d (.int j)]=>if -(2 ^ 62)<=j/\j < 2 ^ 62 then .ok (.rng 0 j.toNat) M else .stuck
 | .rng2,[.d (.int i),.d (.int j)]=>if -(2 ^ 62)<=i/\i < 2 ^ 62/\-(2 ^ 62)<=j/\j < 2 ^ 62 then .ok (.rng i (j - i).toNat) M else .stuck
 | .enum,[.lv ds]=>.ok (.enumIt ds) M
 | .enum,[.d (.tup ds)]=>.ok (.enumIt ds) M
 | .enum,[.d (.ls ds)]=>.ok (.enumIt ds) M
 | .enum,[.d (.adr n)]=>if (seqW M (.d (.adr n))).isSome then .ok (.enumAt n) M else .stuck
 | .rngd,[.d (.int i),.d (.int j),.d (.int k)]=>if k=-1/\-(2 ^ 62)<=i/\i < 2 ^ 62/\-(2 ^ 62)<=j/\j < 2 ^ 62 then .ok (.items (dwnD i (i - j).toNat)) M else .stuck
 | .keys,[.d (.adr n)]=>match M[n]? with
  | some (.dT kvs)=>.ok (.items (kvs.map keyT)) (M.set n (.dF kvs))
  | some (.dF kvs)=>.ok (.items (kvs.map keyT)) M
  | _=>.stuck
 | .vals,[.d (.adr n)]=>match M[n]? with
  | some (.dT kvs)=>.ok (.items (kvs.map (·.2))) (M.set n (.dF kvs))
  | some (.dF kvs)=>.ok (.items (kvs.map (·.2))) M
  | _=>.stuck
 | .zip,[u,v]=>match z1W M u,z1W M v with
  | some a,some b=>.ok (.zip a b) M
  | _,_=>.stuck
 | _,_=>.stuck
noncomputable def setAll (tg:List Nat) (ds:List D) (ρ:En):Option En :=
 match tg,ds with
 | [],[]=>some ρ
 | i::tg,d::ds=>setAll tg ds (ρ.set i (some d))
 | _,_=>none
def bindT (tg:List Nat) (d:D) (ρ:En):Option En :=
 match tg with
 | [i]=>some (ρ.set i (some d))
 | _=>match d with
  | .tup ds=>setAll tg ds ρ
  | _=>none
abbrev Fns:=Nat->List D->Mem->Out W
def capEn (cap:List (Option Nat)) (ρ:En):En:=cap.map fun o=>o.bind fun j=>(ρ[j]?).join
def compGo (cond:En->Mem->Out Bool) (elt:En->Mem->Out D) (it:It) (tg:List Nat):Nat->Nat->En->Mem->List D->Out W
  | 0,i,_,M,acc=>match itemAt M i it with
    | some none=>.ok (.lv acc) M
    | _=>.stuck
  | f+1,i,τ,M,acc=>match itemAt M i it with
    | some none=>.ok (.lv acc) M
    | some (some d)=>match bindT tg d τ with
      | none=>.stuck
      | some τ => if acc.length < sizeLine then
          (cond τ M).b0 fun b M=>if b then (elt τ M).b0 fun x M=>compGo cond elt it tg f (i+1) τ M (acc++[x]) else compGo cond elt it tg f (i+1) τ M acc
        else .stuck
    | none=>.stuck
noncomputable def isTrW (ng:Bool) (x:W) (M:Mem):Out W:=match x with
 | .d (.bl b)=>.ok (.d (.bl (ng != b))) M
 | _=>.stuck
noncomputable def xfW (f:Str) (x:W) (M:Mem):Out W:=match x with
 | .d (.adr n)=>match M[n]? with
  | some (.xc _ fs)=>match fs.lookup f with
   | some d=>.ok (.d d) M
   | none=>.stuck
  | _=>.stuck
 | _=>.stuck
noncomputable def isxW (tb:List (Addr×Bool)) (x:W) (M:Mem):Out W:=match x with
 | .d (.adr n)=>match M[n]? with
  | some (.xc C _)=>match tb.lookup C with
   | some b=>.ok (.d (.bl b)) M
   | none=>.stuck
  | _=>.stuck
 | _=>.stuck
mutual
noncomputable def ev (G:Fns):C->En->Mem->Out W
  | .var i,ρ,M=>match ρ[i]? with
    | some (some d)=>.ok (.d d) M
    | _=>.stuck
  | .cst d,_,M=>.ok (.d d) M
  | .bin op a b,ρ,M=>(ev G a ρ M).bind fun x M=>(ev G b ρ M).bind fun y M=>binW op x y M
  | .cmp op a b,ρ,M=>(ev G a ρ M).bind fun x M=>(ev G b ρ M).bind fun y M=>(cmpW op x y M).bind fun r M=>.ok (.d (.bl r)) M
  | .chain o1 o2 a b c, ρ, M => (ev G a ρ M).bind fun x M => (ev G b ρ M).bind fun y M => (cmpW o1 x y M).bind fun r M =>
      if r then (ev G c ρ M).bind fun z M=>(cmpW o2 y z M).bind fun r M=>.ok (.d (.bl r)) M else .ok (.d (.bl false)) M
  | .conj cs,ρ,M=>evAnd G cs ρ M
  | .disj cs,ρ,M=>evOr G cs ρ M
  | .neg a,ρ,M=>(ev G a ρ M).bind fun x M=>match x with
    | .d (.bl r)=>.ok (.d (.bl (!r))) M
    | _=>.stuck
  | .ite c a b,ρ,M=>(evT G c ρ M).bind fun r M=>if r then ev G a ρ M else ev G b ρ M
  | .tup cs,ρ,M=>(evDs G cs ρ M).bind fun ds M=>if ds.length<=sizeLine then .ok (.d (.tup ds)) M else .stuck
  | .lst cs,ρ,M=>(evDs G cs ρ M).bind fun ds M=>if ds.length<=sizeLine then .ok (.lv ds) M else .stuck
  | .sub a b,ρ,M=>(ev G a ρ M).bind fun x M=>(ev G b ρ M).bind fun y M=>subW x y M
  | .call f cs,ρ,M=>(evDs G cs ρ M).bind fun ds M=>G f ds M
  | .bi b cs,ρ,M=>(evWs G cs ρ M).bind fun ws M=>biW b ws M
  | .me m o cs,ρ,M=>(ev G o ρ M).bind fun x M=>if (lstW M x).isSome then (evDs G cs ρ M).bind fun ds M=>meW m x ds M else .stuck
  | .dct ks cs,ρ,M=>(evDs G cs ρ M).bind fun ds M=>if ks.length=ds.length then .ok (.d (.adr M.length)) (M++[.dK ((ks.map Sum.inr).zip ds)]) else .stuck
  | .rng tp cs,ρ,M=>(evWs G cs ρ M).bind fun ws M=>rngW tp ws M
  | .glo _ v,_,M=>.ok (.d (.int v)) M
  | .isTr ng a,ρ,M=>(ev G a ρ M).bind fun x M=>isTrW ng x M
  | .xf a f,ρ,M=>(ev G a ρ M).bind fun x M=>xfW f x M
  | .isx a _ tb,ρ,M=>(ev G a ρ M).bind fun x M=>isxW tb x M
  | .hcall f cs,ρ,M=>(evDs G cs ρ M).bind fun ds M=>(G f ds M).b0 .ok
  | .comp k src tg cond elt cap, ρ, M => (evWs G src ρ M).bind fun ws M => (srcW k ws M).bind fun it M =>
      compGo (fun τ M=>evCond G cond τ M) (fun τ M=>(ev G elt τ M).bind own) it tg (itLen M it) 0 (capEn cap ρ) M []
noncomputable def evT (G:Fns):Tst->En->Mem->Out Bool
 | .conj ts,ρ,M=>evAll G ts ρ M
 | .disj ts,ρ,M=>evAny G ts ρ M
 | .neg a,ρ,M=>(evT G a ρ M).bind fun r M=>.ok (!r) M
 | .val c,ρ,M=>(ev G c ρ M).bind fun w M=>match truW M w with
  | some r=>.ok r M
  | none=>.stuck
noncomputable def evAnd (G:Fns):List C->En->Mem->Out W
 | [],_,_=>.stuck
 | c::cs,ρ,M=>(ev G c ρ M).bind fun x M=>match cs,x with
  | [],x=>.ok x M
  | _,.d (.bl true)=>evAnd G cs ρ M
  | _,.d (.bl false)=>.ok (.d (.bl false)) M
  | _,_=>.stuck
noncomputable def evOr (G:Fns):List C->En->Mem->Out W
 | [],_,_=>.stuck
 | c::cs,ρ,M=>(ev G c ρ M).bind fun x M=>match cs,x with
  | [],x=>.ok x M
  | _,.d (.bl false)=>evOr G cs ρ M
  | _,.d (.bl true)=>.ok (.d (.bl true)) M
  | _,_=>.stuck
noncomputable def evAll (G:Fns):List Tst->En->Mem->Out Bool
 | [],_,_=>.stuck
 | c::cs,ρ,M=>(evT G c ρ M).bind fun x M=>match cs,x with
  | [],x=>.ok x M
  | _,true=>evAll G cs ρ M
  | _,false=>.ok false M
noncomputable def evAny (G:Fns):List Tst->En->Mem->Out Bool
 | [],_,_=>.stuck
 | c::cs,ρ,M=>(evT G c ρ M).bind fun x M=>match cs,x with
  | [],x=>.ok x M
  | _,false=>evAny G cs ρ M
  | _,true=>.ok true M
noncomputable def evDs (G:Fns):List C->En->Mem->Out (List D)
 | [],_,M=>.ok [] M
 | c::cs,ρ,M=>((ev G c ρ M).bind own).bind fun d M=>(evDs G cs ρ M).bind fun ds M=>.ok (d::ds) M
noncomputable def evWs (G:Fns):List C->En->Mem->Out (List W)
 | [],_,M=>.ok [] M
 | c::cs,ρ,M=>(ev G c ρ M).bind fun d M=>(evWs G cs ρ M).bind fun ds M=>.ok (d::ds) M
noncomputable def evO (G:Fns):Option C->En->Mem->Out (Option Int)
 | none,_,M=>.ok none M
 | some c,ρ,M=>(ev G c ρ M).bind fun w M=>match w with
  | .d (.int i)=>.ok (some i) M
  | _=>.stuck
noncomputable def evCond (G:Fns):Option Tst->En->Mem->Out Bool
 | none,_,M=>.ok true M
 | some c,ρ,M=>evT G c ρ M
end
section
variable {G:Fns} {lo hi:Option C} {cond:Option Tst}
theorem ev_var : ev G (.var i) ρ M = (match ρ[i]? with
    | some (some d)=>.ok (.d d) M
    | _=>.stuck):=rfl
theorem ev_cst:ev G (.cst d) u0 M=.ok (.d d) M:=rfl
theorem ev_bin:ev G (.bin op a b) ρ M=(ev G a ρ M).bind fun x M=>(ev G b ρ M).bind fun y M=>binW op x y M:=rfl
theorem ev_cmp:ev G (.cmp op a b) ρ M=(ev G a ρ M).bind fun x M=>(ev G b ρ M).bind fun y M=>(cmpW op x y M).bind fun r M=>.ok (.d (.bl r)) M:=rfl
theorem ev_chain : ev G (.chain o1 o2 a b c) ρ M = ((ev G a ρ M).bind fun x M => (ev G b ρ M).bind fun y M => (cmpW o1 x y M).bind fun r M =>
      if r then (ev G c ρ M).bind fun z M=>(cmpW o2 y z M).bind fun r M=>.ok (.d (.bl r)) M else .ok (.d (.bl false)) M):=rfl
theorem ev_conj:ev G (.conj cs) ρ M=evAnd G cs ρ M:=rfl
theorem ev_disj:ev G (.disj cs) ρ M=evOr G cs ρ M:=rfl
theorem ev_neg : ev G (.neg a) ρ M = ((ev G a ρ M).bind fun x M => match x with
    | .d (.bl r)=>.ok (.d (.bl (!r))) M
    | _=>.stuck):=rfl
theorem ev_ite:ev G (.ite c a b) ρ M=(evT G c ρ M).bind fun r M=>if r then ev G a ρ M else ev G b ρ M:=rfl
theorem ev_tup:ev G (.tup cs) ρ M=(evDs G cs ρ M).bind fun ds M=>if ds.length<=sizeLine then .ok (.d (.tup ds)) M else .stuck:=rfl
theorem ev_lst:ev G (.lst cs) ρ M=(evDs G cs ρ M).bind fun ds M=>if ds.length<=sizeLine then .ok (.lv ds) M else .stuck:=rfl
theorem ev_sub:ev G (.sub a b) ρ M=(ev G a ρ M).bind fun x M=>(ev G b ρ M).bind fun y M=>subW x y M:=rfl
theorem ev_call:ev G (.call f cs) ρ M=(evDs G cs ρ M).bind fun ds M=>G f ds M:=rfl
theorem ev_bi:ev G (.bi b cs) ρ M=(evWs G cs ρ M).bind fun ws M=>biW b ws M:=rfl
theorem ev_me:ev G (.me m o cs) ρ M=(ev G o ρ M).bind fun x M=>if (lstW M x).isSome then (evDs G cs ρ M).bind fun ds M=>meW m x ds M else .stuck:=rfl
theorem ev_dct:ev G (.dct ks cs) ρ M=(evDs G cs ρ M).bind fun ds M=>if ks.length=ds.length then .ok (.d (.adr M.length)) (M++[.dK ((ks.map Sum.inr).zip ds)]) else .stuck:=rfl
theorem ev_rng:ev G (.rng tp cs) ρ M=(evWs G cs ρ M).bind fun ws M=>rngW tp ws M:=rfl
theorem ev_glo:ev G (.glo u0 v) u1 M=.ok (.d (.int v)) M:=rfl
theorem ev_isTr:ev G (.isTr ng a) ρ M=(ev G a ρ M).bind fun x M=>isTrW ng x M:=rfl
theorem ev_xf {f:Str}:ev G (.xf a f) ρ M=(ev G a ρ M).bind fun x M=>xfW f x M:=rfl
theorem ev_isx {k:IX} {tb:List (Addr×Bool)}:ev G (.isx a k tb) ρ M=(ev G a ρ M).bind fun x M=>isxW tb x M:=rfl
theorem ev_hcall:ev G (.hcall f cs) ρ M=(evDs G cs ρ M).bind fun ds M=>(G f ds M).b0 .ok:=rfl
theorem ev_comp : ev G (.comp k src tg cond elt cap) ρ M = ((evWs G src ρ M).bind fun ws M => (srcW k ws M).bind fun it M =>
      compGo (fun τ M=>evCond G cond τ M) (fun τ M=>(ev G elt τ M).bind own) it tg (itLen M it) 0 (capEn cap ρ) M []):=rfl
theorem evT_conj:evT G (.conj ts) ρ M=evAll G ts ρ M:=rfl
theorem evT_disj:evT G (.disj ts) ρ M=evAny G ts ρ M:=rfl
theorem evT_neg:evT G (.neg a) ρ M=(evT G a ρ M).bind fun r M=>.ok (!r) M:=rfl
theorem evT_val : evT G (.val c) ρ M = ((ev G c ρ M).bind fun w M => match truW M w with
    | some r=>.ok r M
    | none=>.stuck):=rfl
theorem evAnd_nil:evAnd G [] u0 u1=.stuck:=rfl
theorem evAnd_cons : evAnd G (c :: cs) ρ M = ((ev G c ρ M).bind fun x M => match cs, x with
    | [],x=>.ok x M
    | _,.d (.bl true)=>evAnd G cs ρ M
    | _,.d (.bl false)=>.ok (.d (.bl false)) M
    | _,_=>.stuck):=rfl
theorem evOr_nil:evOr G [] u0 u1=.stuck:=rfl
theorem evOr_cons : evOr G (c :: cs) ρ M = ((ev G c ρ M).bind fun x M => match cs, x with
    | [],x=>.ok x M
    | _,.d (.bl false)=>evOr G cs ρ M
    | _,.d (.bl true)=>.ok (.d (.bl true)) M
    | _,_=>.stuck):=rfl
theorem evAll_nil:evAll G [] u0 u1=.stuck:=rfl
theorem evAll_cons : evAll G (c :: cs) ρ M = ((evT G c ρ M).bind fun x M => match cs, x with
    | [],x=>.ok x M
    | _,true=>evAll G cs ρ M
    | _,false=>.ok false M):=rfl
theorem evAny_nil:evAny G [] u0 u1=.stuck:=rfl
theorem evAny_cons : evAny G (c :: cs) ρ M = ((evT G c ρ M).bind fun x M => match cs, x with
    | [],x=>.ok x M
    | _,false=>evAny G cs ρ M
    | _,true=>.ok true M):=rfl
theorem evDs_nil:evDs G [] u0 M=.ok [] M:=rfl
theorem evDs_cons:evDs G (c::cs) ρ M=((ev G c ρ M).bind own).bind fun d M=>(evDs G cs ρ M).bind fun ds M=>.ok (d::ds) M:=rfl
theorem evWs_nil:evWs G [] u0 M=.ok [] M:=rfl
theorem evWs_cons:evWs G (c::cs) ρ M=(ev G c ρ M).bind fun d M=>(evWs G cs ρ M).bind fun ds M=>.ok (d::ds) M:=rfl
theorem evO_none:evO G none u0 M=.ok none M:=rfl
theorem evO_some : evO G (some c) ρ M = ((ev G c ρ M).bind fun w M => match w with
    | .d (.int i)=>.ok (some i) M
    | _=>.stuck):=rfl
end
section
variable [EX]
def RWn (K:PySem.W.Frag) (ads:List Addr) (H₀ H:Hp):W->V->Prop
 | .d x,v=>RD K ads H x v
 | .lv ds,v=>∃ a xs,v=.ref a/\H₀ a=none/\H a=some (.lst xs)/\a∉ads/\RDs K ads H ds xs
def PostW (K:PySem.W.Frag) (ads:List Addr) (H:Hp) (w:W) (M':Mem) (Q:VK):Prop :=
 ∀ v H' ads',Grow ads ads' H H'->MRel K ads' H' M'->RWn K ads' H H' w v->Q v H'
def PostDs (K:PySem.W.Frag) (ads:List Addr) (H:Hp) (ds:List D) (M':Mem) (Q:List V->Hp->Prop):Prop :=
 ∀ vs H' ads',Grow ads ads' H H'->MRel K ads' H' M'->RDs K ads' H' ds vs->Q vs H'
def PostB (K:PySem.W.Frag) (ads:List Addr) (H:Hp) (b:Bool) (M':Mem) (Q:Bool->Hp->Prop):Prop :=
 ∀ H' ads',Grow ads ads' H H'->MRel K ads' H' M'->Q b H'
def OkW (K:PySem.W.Frag) (ads:List Addr) (H:Hp) (Q:VK):Out W->Prop
 | .ok w M=>PostW K ads H w M Q
 | .err x M=>EX.post K ads H x M
 | .stuck=>False
def OkDs (K:PySem.W.Frag) (ads:List Addr) (H:Hp) (Q:List V->Hp->Prop):Out (List D)->Prop
 | .ok w M=>PostDs K ads H w M Q
 | .err x M=>EX.post K ads H x M
 | .stuck=>False
def OkB (K:PySem.W.Frag) (ads:List Addr) (H:Hp) (Q:Bool->Hp->Prop):Out Bool->Prop
 | .ok w M=>PostB K ads H w M Q
 | .err x M=>EX.post K ads H x M
 | .stuck=>False
structure SR (K:PySem.W.Frag) (ads:List Addr) (M:Mem) (ρ:En) (σ:L2.St) (H:Hp):Prop where
 mem:MRel K ads H M
 en:REn K ads H ρ σ
 ln:ρ.length=σ.length
def tE (K:PySem.W.Frag) (o:En->Mem->Out W):TE:=fun σ H Q=>∃ ads M ρ,SR K ads M ρ σ H/\OkW K ads H Q (o ρ M)
def tDs (K:PySem.W.Frag) (o:En->Mem->Out (List D)):TA:=fun σ H Q=>∃ ads M ρ,SR K ads M ρ σ H/\OkDs K ads H Q (o ρ M)
def tTs (K:PySem.W.Frag) (o:En->Mem->Out Bool):TT:=fun σ H Q=>∃ ads M ρ,SR K ads M ρ σ H/\OkB K ads H Q (o ρ M)
section
variable {K:PySem.W.Frag} {ads ads' ads2:List Addr} {H H' H2:Hp} {M M2:Mem} {ρ:En} {σ:L2.St}
theorem RWn.rw {H₀:Hp} {w:W} {v:V} (h:RWn K ads H₀ H w v):RW K ads H w v:=by
 cases w with
 | d x=>exact h
 | lv ds=>obtain ⟨a,xs,e,_,h1,n,r⟩:=h;exact ⟨a,xs,e,h1,n,r⟩
theorem SR.grow (s:SR K ads M ρ σ H) (g:Grow ads ads' H H') (m:MRel K ads' H' M2):SR K ads' M2 ρ σ H':=⟨m,g.ren s.en,s.ln⟩
theorem none_back (g:Grow ads ads' H H') (m:MRel K ads H M) (m':MRel K ads' H' M2) {a:Addr} (h:H' a=none):H a=none:=by
 by_cases hb:a∈ads
 ·have:a∈ads':=by obtain ⟨r,e⟩:=g.pre;rw [e];exact zqbr _ hb
  exact absurd this (m'.fresh h)
 ·cases q:H a with
  | none=>rfl
  | some o=>rw [g.kept a o hb q] at h;cases h
theorem RWn.back {w:W} {v:V} (g:Grow ads ads' H H') (m:MRel K ads H M) (m':MRel K ads' H' M2) (h:RWn K ads2 H' H2 w v):RWn K ads2 H H2 w v:=by
 cases w with
 | d x=>exact h
 | lv ds=>obtain ⟨a,xs,e,h0,h1,n,r⟩:=h;exact ⟨a,xs,e,none_back g m m' h0,h1,n,r⟩
theorem PostW.shift {w:W} {Mw:Mem} {Q:VK} (p:PostW K ads H w Mw Q) (g:Grow ads ads' H H') (m:MRel K ads H M) (m':MRel K ads' H' M2):PostW K ads' H' w Mw Q :=
 fun v H1 ads1 g1 m1 r=>p v H1 ads1 (g.trans g1) m1 (r.back g m m')
theorem OkW.shift {o:Out W} {Q:VK} (p:OkW K ads H Q o) (g:Grow ads ads' H H') (m:MRel K ads H M) (m':MRel K ads' H' M2):OkW K ads' H' Q o:=by
 cases o with
 | ok w Mw=>exact PostW.shift p g m m'
 | err _ _=>exact EX.shift p g
 | stuck=>exact p
theorem OkB.shift {o:Out Bool} {Q:Bool->Hp->Prop} (p:OkB K ads H Q o) (g:Grow ads ads' H H'):OkB K ads' H' Q o:=by
 cases o with
 | ok w Mw=>exact fun H1 ads1 g1 m1=>p H1 ads1 (g.trans g1) m1
 | err _ _=>exact EX.shift p g
 | stuck=>exact p
theorem OkW.imp {e1 e2:EX} (im:∀ {K:PySem.W.Frag} {ads:List Addr} {H:Hp} {x:Exn} {M:Mem},e1.post K ads H x M->e2.post K ads H x M) {o:Out W} {Q:VK} (p:@OkW e1 K ads H Q o):@OkW e2 K ads H Q o:=by
 cases o with
 | ok w Mw=>exact p
 | err _ _=>exact im p
 | stuck=>exact p
theorem tE_bind {o:En->Mem->Out W} {k:W->Mem->Out W} {Q:VK} {R:V->Hp->Prop} (s:SR K ads M ρ σ H) (h:OkW K ads H Q ((o ρ M).bind k)) (hk:∀ w M1 v H1 ads1,SR K ads1 M1 ρ σ H1->RW K ads1 H1 w v->OkW K ads1 H1 Q (k w M1)->R v H1):tE K o σ H R:=by
 refine ⟨ads,M,ρ,s,?_⟩
 cases q:o ρ M with
 | ok w M1 =>
  rw [q] at h
  have h:OkW K ads H Q (k w M1):=h
  exact fun v H1 ads1 g1 m1 r=>hk w M1 v H1 ads1 (s.grow g1 m1) r.rw (h.shift g1 s.mem m1)
 | err _ _=>rw [q] at h;exact h
 | stuck=>rw [q] at h;exact h
theorem two {oa ob:En->Mem->Out W} {f:W->W->Mem->Out W} {r:R2} {Q:VK} (hr:∀ {ads M H x y vx vy Q},MRel K ads H M->RW K ads H x vx->RW K ads H y vy->OkW K ads H Q (f x y M)->r vx vy H Q) (h:tE K (fun ρ M=>(oa ρ M).bind fun x M=>(ob ρ M).bind fun y M=>f x y M) σ H Q):tOp r (tE K oa) (tE K ob) σ H Q:=by
 obtain ⟨ads,M,ρ,s,h⟩:=h
 refine tE_bind s h fun w M1 v H1 ads1 s1 rw1 h1=>?_
 refine ⟨ads1,M1,ρ,s1,?_⟩
 cases q:ob ρ M1 with
 | ok y M2 =>
  rw [q] at h1
  have h1:OkW K ads1 H1 Q (f w y M2):=h1
  exact fun vy H2 ads2 g2 m2 ry=>hr m2 (g2.rw rw1) ry.rw (h1.shift g2 s1.mem m2)
 | err _ _=>rw [q] at h1;exact h1
 | stuck=>rw [q] at h1;exact h1
theorem OkW.plain {Q:VK} {x:D} {v:V} (h:OkW K ads H Q (.ok (.d x) M)) (m:MRel K ads H M) (r:RD K ads H x v):Q v H:=h v H ads (Grow.refl _ _) m r
theorem OkW.list {Q:VK} {ds:List D} {xs:List V} (h:OkW K ads H Q (.ok (.lv ds) M)) (m:MRel K ads H M) (r:RDs K ads H ds xs) {p:Addr} (hp:H p=none):Q (.ref p) (upd H p (.lst xs)) :=
 h _ _ ads (Grow.new1 m hp) (m.new1 hp) ⟨p,xs,rfl,hp,upd_same,m.fresh hp,(Grow.new1 m hp).rds _ _ r⟩
theorem OkW.tuple {Q:VK} {ds:List D} {xs:List V} (h:OkW K ads H Q (.ok (.d (.tup ds)) M)) (m:MRel K ads H M) (r:RDs K ads H ds xs) {p:Addr} (hp:H p=none):Q (.ref p) (upd H p (.tup xs)):=by
 refine h _ _ ads (Grow.new1 m hp) (m.new1 hp) ?_
 show RD _ _ _ (.tup ds) _
 unfold RD
 exact ⟨p,xs,rfl,upd_same,(Grow.new1 m hp).rds _ _ r⟩
theorem seq_ok {w:W} {v:V} {l:Bool} {ds:List D} (m:MRel K ads H M) (r:RW K ads H w v) (e:seqW M w=some (l,ds)):∃ a xs,v=.ref a/\RDs K ads H ds xs/\((l=true/\SqL K H a xs)\/(l=false/\SqT K H a xs)):=by
 cases w with
 | lv es =>
  simp only [seqW,zqbi,zqcq] at e
  obtain ⟨rfl,rfl⟩:=e
  obtain ⟨a,xs,e,h,n,r⟩:=r
  exact ⟨a,xs,e,r,.inl ⟨rfl,SqL.of h⟩⟩
 | d x =>
  cases x with
  | tup es =>
   simp only [seqW,zqbi,zqcq] at e
   obtain ⟨rfl,rfl⟩:=e
   have r:RD K ads H (.tup es) v:=r
   unfold RD at r
   obtain ⟨a,xs,e,h,r⟩:=r
   exact ⟨a,xs,e,r,.inr ⟨rfl,SqT.of h⟩⟩
  | ls es =>
   simp only [seqW,zqbi,zqcq] at e
   obtain ⟨rfl,rfl⟩:=e
   have r:RD K ads H (.ls es) v:=r
   unfold RD at r
   obtain ⟨a,xs,e,h,r⟩:=r
   exact ⟨a,xs,e,r,.inl ⟨rfl,h.sq⟩⟩
  | adr n =>
   have r:RD K ads H (.adr n) v:=r
   unfold RD at r
   obtain ⟨a,ev,ea⟩:=r
   unfold seqW at e;dsimp only at e
   cases q:M[n]? with
   | none=>rw [q] at e;cases e
   | some o =>
    rw [q] at e
    have ho:=m.obj n o a q ea
    cases o with
    | lst es=>cases e;obtain ⟨xs,h,r⟩:=ho;exact ⟨a,xs,ev,r,.inl ⟨rfl,SqL.of h⟩⟩
    | scr es=>cases e;obtain ⟨o,xs,h,r⟩:=ho;exact ⟨a,xs,ev,r,.inl ⟨rfl,.inl (.inr ⟨o,h⟩)⟩⟩
    | dK _=>cases e
    | dT _=>cases e
    | dF _=>cases e
    | xc _ _=>cases e
  | non=>cases e
  | bl _=>cases e
  | int _=>cases e
  | str _=>cases e
theorem lst_ok {w:W} {v:V} {ds:List D} (m:MRel K ads H M) (r:RW K ads H w v) (e:lstW M w=some ds):∃ a xs,v=.ref a/\RDs K ads H ds xs/\H a=some (.lst xs):=by
 cases w with
 | lv es =>
  simp only [lstW,zqbi] at e
  subst e
  obtain ⟨a,xs,e,h,n,r⟩:=r
  exact ⟨a,xs,e,r,h⟩
 | d x =>
  cases x with
  | adr n =>
   have r:RD K ads H (.adr n) v:=r
   unfold RD at r
   obtain ⟨a,ev,ea⟩:=r
   simp only [lstW] at e
   cases q:M[n]? with
   | none=>rw [q] at e;cases e
   | some o =>
    rw [q] at e
    have ho:=m.obj n o a q ea
    cases o with
    | lst es=>cases e;obtain ⟨xs,h,r⟩:=ho;exact ⟨a,xs,ev,r,h⟩
    | scr es=>cases e
    | dK _=>cases e
    | dT _=>cases e
    | dF _=>cases e
    | xc _ _=>cases e
  | tup _=>cases e
  | ls _=>cases e
  | non=>cases e
  | bl _=>cases e
  | int _=>cases e
  | str _=>cases e
theorem rw_int {i:Int} {v:V} (r:RW K ads H (.d (.int i)) v):v=.int i:=by
 have r:RD K ads H (.int i) v:=r
 unfold RD at r;exact r
theorem rw_str {i:Str} {v:V} (r:RW K ads H (.d (.str i)) v):v=.str i:=by
 have r:RD K ads H (.str i) v:=r
 unfold RD at r;exact r
theorem rw_bl {i:Bool} {v:V} (r:RW K ads H (.d (.bl i)) v):v=.bl i:=by
 have r:RD K ads H (.bl i) v:=r
 unfold RD at r;exact r
theorem rw_non {v:V} (r:RW K ads H (.d .non) v):v=.non:=by
 have r:RD K ads H .non v:=r
 unfold RD at r;exact r
theorem rd_int (i:Int):RD K ads H (.int i) (.int i):=by unfold RD;rfl
theorem rd_bl (i:Bool):RD K ads H (.bl i) (.bl i):=by unfold RD;rfl
theorem rd_str (i:Str):RD K ads H (.str i) (.str i):=by unfold RD;rfl
theorem rd_non:RD K ads H .non .non:=by unfold RD;rfl
end
section
variable {X:Cx}
def rBin (K:PySem.W.Frag) (op:BOp):R2:=fun x y H Q=>∃ ads M wx wy,MRel K ads H M/\RW K ads H wx x/\RW K ads H wy y/\OkW K ads H Q (binW op wx wy M)
noncomputable def opOf:BOp->Operator
 | .add=>.Add | .sub=>.Sub | .mul=>.Mult | .fdiv=>.FloorDiv | .mod=>.Mod | .pow=>.Pow
theorem op_catE:OpR X (binaryOp .Add) (fun x y H Q=>∃ a b ys,x=.ref a/\y=.ref b/\SqT X.K H a []/\SqT X.K H b ys/\Q (.ref b) H):=by
 intro pins s σ H x y v u Q I rx ry h
 obtain ⟨a,b,ys,rfl,rfl,ha,hb,q⟩:=h
 cases rx
 cases ry
 obtain ⟨its,r1,p1,_⟩:=I.tuple ha
 obtain ⟨its2,r2,p2,_⟩:=I.tuple hb
 cases r1
 obtain ⟨⟨cls,dd,data,sl⟩,ho,hc,n,hd⟩:=id p1
 obtain ⟨⟨cls2,dd2,data2,sl2⟩,ho2,hc2,n2,hd2⟩:=id p2
 simp only at hc hd hc2 hd2
 subst hc hd hc2 hd2
 exact concat_meets ⟨_,ho,rfl⟩ ⟨_,ho2,rfl⟩ noFill_tuple_add seq_tuple_add zqco zqcm (zqci _ _)
  (tuple_addW0 a b _ its2.toArray n n2 dd dd2 sl sl2 rfl) ⟨ho,ho2,⟨.ref b,H,I,rfl,q⟩⟩
theorem RDs.rep {K:PySem.W.Frag} {ads:List Addr} {H:Hp} {ds:List D} {vs:List V} (r:RDs K ads H ds vs):∀ k:Nat,RDs K ads H (List.replicate k ds).flatten (List.replicate k vs).flatten
 | 0=>by simp;unfold RDs;rfl
 | k+1=>by simp only [zqbv,zqb7];exact r.app (RDs.rep r k)
theorem op_bin (op:BOp):OpR X (binaryOp (opOf op)) (rBin X.K op):=by
 intro pins s σ H x y v u Q I rx ry h
 obtain ⟨ads,M,wx,wy,m,r1,r2,h⟩:=h
 have listy:∀ {op},op=BOp.add->OkW X.K ads H Q (match lstW M wx,lstW M wy with
  | some xs,some ys=>if xs.length+ys.length<=sizeLine then .ok (.lv (xs++ys)) M else .stuck
  | _,_=>.stuck)->wpAny (model X.prog X.w) X.A (binaryOp (opOf op) v u) (EP X pins σ Q) X.xe s:=by
  intro op e h
  subst e
  cases q1:lstW M wx with
  | none=>rw [q1] at h;exact h.elim
  | some xs =>
   cases q2:lstW M wy with
   | none=>rw [q1,q2] at h;exact h.elim
   | some ys =>
    rw [q1,q2] at h
    dsimp only at h
    split at h
    ·rename_i hz
     obtain ⟨a,vs,e1,ra,ha⟩:=lst_ok m r1 q1
     obtain ⟨b,ws,e2,rb,hb⟩:=lst_ok m r2 q2
     subst e1 e2
     refine op_cat pins s σ H _ _ v u Q I rx ry ⟨a,b,vs,ws,rfl,rfl,ha,hb,by rw [<- ra.len,<- rb.len];exact hz,fun p hp=>h.list m (ra.app rb) hp⟩
    ·exact h.elim
 unfold binW at h
 split at h
 ·rw [rw_int r1] at rx;rw [rw_int r2] at ry
  exact op_add pins s σ H _ _ v u Q I rx ry ⟨_,_,rfl,rfl,h.plain m (rd_int _)⟩
 ·rw [rw_int r1] at rx;rw [rw_int r2] at ry
  exact op_sub pins s σ H _ _ v u Q I rx ry ⟨_,_,rfl,rfl,h.plain m (rd_int _)⟩
 ·rw [rw_int r1] at rx;rw [rw_int r2] at ry
  split at h
  ·rename_i hc
   exact op_mul pins s σ H _ _ v u Q I rx ry ⟨_,_,rfl,rfl,hc,h.plain m (rd_int _)⟩
  ·exact h.elim
 ·rw [rw_int r1] at rx;rw [rw_int r2] at ry
  split at h
  ·rename_i hc
   exact op_fdiv pins s σ H _ _ v u Q I rx ry ⟨_,_,rfl,rfl,hc,h.plain m (rd_int _)⟩
  ·exact h.elim
 ·rw [rw_int r1] at rx;rw [rw_int r2] at ry
  split at h
  ·rename_i hc
   exact op_mod pins s σ H _ _ v u Q I rx ry ⟨_,_,rfl,rfl,hc,h.plain m (rd_int _)⟩
  ·exact h.elim
 ·rw [rw_int r1] at rx;rw [rw_int r2] at ry
  split at h
  ·rename_i hc
   exact op_pow pins s σ H _ _ v u Q I rx ry ⟨_,_,rfl,rfl,hc,h.plain m (rd_int _)⟩
  ·exact h.elim
 ·rename_i xs ys
  split at h
  ·rename_i hc
   have r1:RD X.K ads H (.tup xs) x:=r1
   have r2:RD X.K ads H (.tup ys) y:=r2
   unfold RD at r1 r2
   obtain ⟨a,vs,e1,ha,ra⟩:=r1
   obtain ⟨b,ws,e2,hb,rb⟩:=r2
   subst e1 e2
   by_cases hx0:vs=[]
   ·have ex:xs=[]:=List.eq_nil_of_length_eq_zero (by rw [ra.len,hx0];rfl)
    subst ex hx0
    refine op_catE pins s σ H _ _ v u Q I rx ry ⟨a,b,ws,rfl,rfl,SqT.of ha,SqT.of hb,OkW.plain (x:=.tup ys) h m ?_⟩
    unfold RD
    exact ⟨b,ws,rfl,hb,rb⟩
   refine op_catT pins s σ H _ _ v u Q I rx ry ⟨a,b,vs,ws,rfl,rfl,SqT.of ha,SqT.of hb,hx0,by rw [<- ra.len,<- rb.len];exact hc,fun z=>?_,fun _ p hp=>h.tuple m (ra.app rb) hp⟩
   have ey:ys=[]:=List.eq_nil_of_length_eq_zero (by rw [rb.len,z];rfl)
   subst ey
   rw [zqbs] at h
   refine h.plain m ?_
   unfold RD
   exact ⟨a,vs,rfl,ha,ra⟩
  ·exact h.elim
 ·exact listy rfl h
 ·rename_i k _
  cases q1:lstW M wx with
  | none=>rw [q1] at h;exact h.elim
  | some xs =>
   rw [q1] at h
   dsimp only at h
   split at h
   ·rename_i hz
    obtain ⟨a,vs,e1,ra,ha⟩:=lst_ok m r1 q1
    subst e1
    rw [rw_int r2] at ry
    refine op_rep pins s σ H _ _ v u Q I rx ry ⟨a,k,vs,rfl,rfl,ha,hz.1,hz.2.1,by rw [<- ra.len];exact hz.2.2,fun p hp=>h.list m (RDs.rep ra k.toNat) hp⟩
   ·exact h.elim
 ·exact h.elim
end
end
section
variable [EX]
section
variable {X:Cx} {pins:List (Addr×Obj)} {σ:L2.St} {H:Hp} {s:Shared} {ads:List Addr} {M:Mem}
theorem reads_all (I:Inv X pins σ H s) (n:Nat) (hA:∀ d v u p,RD X.K ads H d v->RelV v u->pyD M n d=some p->∃ as,Reads s.heap u p as):∀ (ds:List D) (vs:List V) (us:List Value) (ps:List PyData),RDs X.K ads H ds vs->Vals vs us->pyDs M n ds=some ps->∃ as,ReadsAll s.heap us ps as
 | [],vs,us,ps,r,rv,e=>by
  unfold RDs at r
  subst r
  cases rv
  unfold pyDs at e
  cases e
  exact ⟨[],.nil⟩
 | d::ds,vs,us,ps,r,rv,e=>by
  unfold RDs at r
  obtain ⟨x,r',rfl,h1,h2⟩:=r
  cases rv with
  | cons rx rr =>
   unfold pyDs at e
   cases q1:pyD M n d with
   | none=>rw [q1] at e;cases e
   | some p =>
    cases q2:pyDs M n ds with
    | none=>rw [q1,q2] at e;cases e
    | some qs =>
     rw [q1,q2] at e
     cases e
     obtain ⟨as,k1⟩:=hA d x _ p h1 rx q1
     obtain ⟨bs,k2⟩:=reads_all I n hA ds r' _ qs h2 rr q2
     exact ⟨as++bs,.cons k1 k2⟩
theorem reads_d (I:Inv X pins σ H s) (m:MRel X.K ads H M):∀ (n:Nat) (d:D) (v:V) (u:Value) (p:PyData),RD X.K ads H d v->RelV v u->pyD M n d=some p->∃ as,Reads s.heap u p as:=by
 intro n
 induction n with
 | zero =>
  intro d v u p r rv e
  cases d with
  | non=>unfold RD at r;subst r;cases rv;unfold pyD at e;cases e;exact ⟨_,.none⟩
  | bl b=>unfold RD at r;subst r;cases rv;unfold pyD at e;cases e;exact ⟨_,.bool _⟩
  | int b=>unfold RD at r;subst r;obtain ⟨t,rfl⟩:=rv;unfold pyD at e;cases e;exact ⟨_,.int _ _⟩
  | str b=>unfold RD at r;subst r;obtain ⟨t,rfl⟩:=rv;unfold pyD at e;cases e;exact ⟨_,.str _ _⟩
  | tup _=>unfold pyD at e;cases e
  | adr _=>unfold pyD at e;cases e
  | ls _=>unfold pyD at e;cases e
 | succ n ih =>
  intro d v u p r rv e
  cases d with
  | non=>unfold RD at r;subst r;cases rv;unfold pyD at e;cases e;exact ⟨_,.none⟩
  | bl b=>unfold RD at r;subst r;cases rv;unfold pyD at e;cases e;exact ⟨_,.bool _⟩
  | int b=>unfold RD at r;subst r;obtain ⟨t,rfl⟩:=rv;unfold pyD at e;cases e;exact ⟨_,.int _ _⟩
  | str b=>unfold RD at r;subst r;obtain ⟨t,rfl⟩:=rv;unfold pyD at e;cases e;exact ⟨_,.str _ _⟩
  | tup ds =>
   unfold RD at r
   obtain ⟨a,xs,rfl,hs,r⟩:=r
   cases rv
   unfold pyD at e
   cases q:pyDs M n ds with
   | none=>rw [q] at e;cases e
   | some ps =>
    rw [q] at e;cases e
    obtain ⟨its,rv,⟨o,h1,h2,k,h3⟩,_⟩:=I.tuple (SqT.of (K:=X.K) hs)
    obtain ⟨as,ra⟩:=reads_all I n ih ds xs its ps r rv q
    exact ⟨as,.tuple h1 h2 h3 (by simpa using ra)⟩
  | ls ds =>
   unfold RD at r
   obtain ⟨a,xs,rfl,hs,r⟩:=r
   cases rv
   unfold pyD at e
   cases q:pyDs M n ds with
   | none=>rw [q] at e;cases e
   | some ps =>
    rw [q] at e;cases e
    obtain ⟨its,rv,⟨o,kk,h1,h2,h3,h4⟩,_⟩:=I.list hs.sq
    obtain ⟨as,ra⟩:=reads_all I n ih ds xs its ps r rv q
    exact ⟨a::as,.list h1 h2 h4 (by simpa using ra)⟩
  | adr k =>
   unfold RD at r
   obtain ⟨a,rfl,ea⟩:=r
   cases rv
   unfold pyD at e
   have lst:∀ ds,SqL X.K H a ds->∀ es,RDs X.K ads H es ds->(pyDs M n es).map PyData.list=some p->∃ as,Reads s.heap (.ref a) p as:=by
    intro xs hs es r e
    cases q:pyDs M n es with
    | none=>rw [q] at e;cases e
    | some ps =>
     rw [q] at e;cases e
     obtain ⟨its,rv,⟨o,kk,h1,h2,h3,h4⟩,_⟩:=I.list hs
     obtain ⟨as,ra⟩:=reads_all I n ih es xs its ps r rv q
     exact ⟨a::as,.list h1 h2 h4 (by simpa using ra)⟩
   cases q:M[k]? with
   | none=>rw [q] at e;cases e
   | some o =>
    rw [q] at e
    have ho:=m.obj k o a q ea
    cases o with
    | lst es=>obtain ⟨xs,h,r⟩:=ho;exact lst xs (SqL.of h) es r e
    | scr es=>obtain ⟨o,xs,h,r⟩:=ho;exact lst xs (.inl (.inr ⟨o,h⟩)) es r e
    | dK _=>cases e
    | dT _=>cases e
    | dF _=>cases e
    | xc _ _=>cases e
theorem reads_w (I:Inv X pins σ H s) (m:MRel X.K ads H M) {w:W} {v:V} {u:Value} {p:PyData} (r:RW X.K ads H w v) (rv:RelV v u) (e:pyW M w=some p):∃ as,Reads s.heap u p as:=by
 cases w with
 | d x=>exact reads_d I m 30 x v u p r rv e
 | lv ds =>
  obtain ⟨a,xs,rfl,h,n,r⟩:=r
  cases rv
  have e:(pyDs M 30 ds).map PyData.list=some p:=e
  cases q:pyDs M 30 ds with
  | none=>rw [q] at e;cases e
  | some ps =>
   rw [q] at e;cases e
   obtain ⟨its,rv,⟨o,kk,h1,h2,h3,h4⟩,_⟩:=I.list (SqL.of (K:=X.K) h)
   obtain ⟨as,ra⟩:=reads_all I 30 (reads_d I m 30) ds xs its ps r rv q
   exact ⟨a::as,.list h1 h2 h4 (by simpa using ra)⟩
end
section
variable {K:PySem.W.Frag} {ads:List Addr} {H:Hp}
theorem RKs.find {κ:Type} [DecidableEq κ] {k:κ}:∀ {kvs:List (κ×D)} {ks:List (κ×V)} {d:D},RKs K ads H kvs ks->(kvs.find? fun p=>decide (p.1=k)).map (·.2)=some d->∃ v,valV ks k=some v/\RD K ads H d v
 | [],_,_,_,e=>by cases e
 | p::ps,ks,d,r,e=>by
  unfold RKs at r
  obtain ⟨x,r',rfl,h0,h1,h2⟩:=r
  by_cases hk:p.1=k
  ·have e':p.2=d:=by simpa [zqbh,hk] using e
   subst e'
   exact ⟨x.2,valV_pos (h0 ▸ hk),h1⟩
  ·obtain ⟨v,e1,rv⟩:=RKs.find h2 (by simpa [zqbh,hk] using e)
   exact ⟨v,(valV_neg (h0 ▸ hk)).trans e1,rv⟩
theorem RKs.len {κ:Type}:∀ {kvs:List (κ×D)} {ks:List (κ×V)},RKs K ads H kvs ks->kvs.length=ks.length
 | [],_,r=>by unfold RKs at r;subst r;rfl
 | p::ps,ks,r=>by unfold RKs at r;obtain ⟨x,r',rfl,h0,h1,h2⟩:=r;simp [RKs.len h2]
theorem RKs.find0 {κ:Type} [DecidableEq κ] {k:κ}:∀ {kvs:List (κ×D)} {ks:List (κ×V)},RKs K ads H kvs ks->getK kvs k=none->valV ks k=none
 | [],_,r,_=>by unfold RKs at r;subst r;rfl
 | p::ps,ks,r,e=>by
  unfold RKs at r
  obtain ⟨x,r',rfl,h0,h1,h2⟩:=r
  by_cases hk:p.1=k
  ·unfold getK at e
   simp [zqbh,hk] at e
  ·exact (valV_neg (h0 ▸ hk)).trans (RKs.find0 h2 (by unfold getK at e ⊢;simpa [zqbh,hk] using e))
end
section
variable {X:Cx} {pins:List (Addr×Obj)} {σ:L2.St} {H:Hp} {s:Shared} {ads:List Addr} {M:Mem}
theorem dct_ok {w:W} {v:V} {kvs:List (Key×D)} {K:PySem.W.Frag} (m:MRel K ads H M) (r:RW K ads H w v) (e:dctW M w=some kvs):∃ a ks,v=.ref a/\H a=some (.dK ks)/\RKs K ads H kvs ks:=by
 cases w with
 | lv es=>cases e
 | d x =>
  cases x with
  | adr n =>
   have r:RD K ads H (.adr n) v:=r
   unfold RD at r
   obtain ⟨a,ev,ea⟩:=r
   simp only [dctW] at e
   cases q:M[n]? with
   | none=>rw [q] at e;cases e
   | some o =>
    rw [q] at e
    have ho:=m.obj n o a q ea
    cases o with
    | lst es=>cases e
    | scr es=>cases e
    | dK _=>cases e;obtain ⟨ks,h,r⟩:=ho;exact ⟨a,ks,ev,h,r⟩
    | dT _=>cases e
    | dF _=>cases e
    | xc _ _=>cases e
  | tup _=>cases e
  | ls _=>cases e
  | non=>cases e
  | bl _=>cases e
  | int _=>cases e
  | str _=>cases e
theorem key_ok {w:W} {v:V} {k:Key} {K:PySem.W.Frag} (r:RW K ads H w v) (e:keyW w=some k):v=kV k:=by
 cases w with
 | lv es=>cases e
 | d x =>
  cases x with
  | int i=>cases e;exact rw_int r
  | str i=>cases e;exact rw_str r
  | adr _=>cases e
  | tup _=>cases e
  | ls _=>cases e
  | non=>cases e
  | bl _=>cases e
theorem dget_of {K:PySem.W.Frag} {kvs:List (Key×D)} {ks:List (Key×V)} {a:Addr} {k:Key} (ha:H a=some (.dK ks)) (r:RKs K ads H kvs ks):∃ o,DGet H a (kV k) o/\o.isSome=(getK kvs k).isSome:=by
 refine ⟨_,DGet.k (k:=k) ha,?_⟩
 cases q:getK kvs k with
 | none=>rw [r.find0 q];rfl
 | some d=>obtain ⟨v,e,_⟩:=r.find q;rw [e];rfl
theorem hits_ok (I:Inv X pins σ H s) (m:MRel X.K ads H M) (hu:X.A.units+100 < cLine) {kb:List (Key×D)} {ksb:List (Key×V)} {vsb:List (Key×Value)} (rb:RKs X.K ads H kb ksb) (vb:KV ksb vsb):∀ {ka:List (Key×D)} {ksa:List (Key×V)} {vsa:List (Key×Value)} {r:Bool},RKs X.K ads H ka ksa->KV ksa vsa->eqKs M kb ka=some r->PySem.W.KeqHits X.A.in1 s vsb vsa r
 | [],ksa,vsa,r,ra,va,e=>by
  unfold RKs at ra
  subst ra
  cases va
  cases e
  exact .nil
 | (k,d)::ka,ksa,vsa,r,ra,va,e=>by
  unfold RKs at ra
  obtain ⟨x,r',rfl,h0,h1,h2⟩:=ra
  obtain ⟨x1,x2⟩:=x
  have h0:k=x1:=h0
  subst h0
  have h1:RD X.K ads H d x2:=h1
  cases va with
  | cons hp hr =>
   rename_i q vr
   obtain ⟨q1,q2⟩:=q
   obtain ⟨e1,e2⟩:=hp
   have e1:k=q1:=e1
   subst e1
   have e2:RelV x2 q2:=e2
   have hv:=vb.val k
   simp only [eqKs] at e
   cases hg:getK kb k with
   | none =>
    rw [hg] at e
    cases e
    rw [rb.find0 hg] at hv
    exact .miss (RelO.none_of hv)
   | some y =>
    rw [hg] at e
    dsimp only at e
    obtain ⟨v',ev',rv'⟩:=rb.find hg
    rw [ev'] at hv
    obtain ⟨u',eu,ru⟩:=RelO.some_of hv
    cases p1:pyD M 30 d with
    | none=>rw [p1] at e;cases e
    | some p =>
     cases p2:pyD M 30 y with
     | none=>rw [p1,p2] at e;cases e
     | some p' =>
      rw [p1,p2] at e
      dsimp only at e
      split at e
      ·rename_i hs
       cases hr2:eqKs M kb ka with
       | none=>rw [hr2] at e;cases e
       | some b =>
        rw [hr2] at e
        have e:(PyData.eqv p p' && b)=r:=zqag e
        subst e
        obtain ⟨as,rda⟩:=reads_d I m 30 d x2 q2 p h1 e2 p1
        obtain ⟨bs,rdb⟩:=reads_d I m 30 y v' u' p' rv' ru p2
        exact .hit eu (PySem.W.keq_at rda rdb hs.1 hs.2 (by show X.A.units+1+64 < cLine;omega)) (hits_ok I m hu rb vb h2 hr hr2)
      ·cases e
end
noncomputable def cOf:COp->CmpOp
 | .eq=>.Eq | .ne=>.NotEq | .lt=>.Lt | .le=>.LtE | .gt=>.Gt | .ge=>.GtE | .isN=>.Is | .notN=>.IsNot | .isin=>.In | .notin=>.NotIn
def OkC (K:PySem.W.Frag) (ads:List Addr) (H:Hp) (Q:VK):Out Bool->Prop
 | .ok b M=>∀ H' ads',Grow ads ads' H H'->MRel K ads' H' M->Q (.bl b) H'
 | .err x M=>EX.post K ads H x M
 | .stuck=>False
def rCmp (K:PySem.W.Frag) (op:COp):R2:=fun x y H Q=>∃ ads M wx wy,MRel K ads H M/\RW K ads H wx x/\RW K ads H wy y/\((op=.isN\/op=.notN)->y=.non)/\OkC K ads H Q (cmpW op wx wy M)
theorem OkC.now {K:PySem.W.Frag} {ads:List Addr} {H:Hp} {Q:VK} {b:Bool} {M:Mem} (h:OkC K ads H Q (.ok b M)) (m:MRel K ads H M):Q (.bl b) H:=h H ads (Grow.refl _ _) m
section
variable {X:Cx}
open Classical in
noncomputable def isEqP (h:Heap) (p:PyData) (y:Value):Bool:=decide (∃ q' cs',Reads h y q' cs'/\PyData.eqv q' p=true)
open Classical in
theorem isEqP_at {h:Heap} {p q:PyData} {y:Value} {cs:List Addr} (ry:Reads h y q cs):isEqP h p y=PyData.eqv q p:=by
 unfold isEqP
 cases hb:PyData.eqv q p with
 | true=>exact zqbo ⟨q,cs,ry,hb⟩
 | false =>
  refine zqay ?_
  rintro ⟨q',cs',ry',hq'⟩
  obtain ⟨e,_⟩:=PyProof.Rows.reads_det (fun _ _ e _=>e) ry ry'
  rw [<- e,hq'] at hb
  cases hb
theorem eqs_at {s:Shared} {A:Around} {x:Value} {p:PyData} {as:List Addr} (rx:Reads s.heap x p as) (hx:SeqAt.shaped p=true) (hu:A.units+65 < cLine):∀ {us:List Value} {qs:List PyData} {bs:List Addr},ReadsAll s.heap us qs bs->qs.all SeqAt.shaped=true->(∀ y∈us,SeqAt.EqAt A.in1 s y x (isEqP s.heap p y))/\us.any (isEqP s.heap p)=inPy p qs
 | _,_,_,.nil,_=>⟨(fun y hy=>by cases hy),rfl⟩
 | _,_,_,.cons (v:=v) (d:=q) ry rr,hq=>by
  rw [List.all_cons,zqab] at hq
  have hq':=hq
  obtain ⟨k1,k2⟩:=eqs_at rx hx hu rr hq'.2
  have e0:=SeqAt.eqAt_reads q p A.in1 s v x _ _ ry rx (SeqAt.canLay_of_shaped hq'.1) (SeqAt.canLay_of_shaped hx) (SeqAt.room_of_shaped hq'.1 (by show A.units+1+64 < cLine;omega))
  rw [<- isEqP_at ry] at e0
  refine ⟨fun y hy=>?_,?_⟩
  ·rcases zqaq.mp hy with z | z
   ·subst z;exact e0
   ·exact k1 y z
  ·rw [zqcs,k2,isEqP_at ry];rfl
theorem eqs_all {s:Shared} {A:Around} {x:Value} {p:PyData} {as:List Addr} (rx:Reads s.heap x p as) (hx:SeqAt.shaped p=true) (hu:A.units+65 < cLine) {us:List Value} {qs:List PyData} {bs:List Addr} (r:ReadsAll s.heap us qs bs) (hq:qs.all SeqAt.shaped=true):∃ e:Value->Bool,(∀ y∈us,SeqAt.EqAt A.in1 s y x (e y))/\us.any e=inPy p qs :=
 ⟨isEqP s.heap p,eqs_at rx hx hu r hq⟩
theorem op_le_str:OpR X (compareOp .LtE) (fun x y H Q=>∃ i j,x=.str i/\y=.str j/\Q (.bl (!decide (j.cps.toList < i.cps.toList))) H):=by
 intro pins s σ H x y v u Q I rx ry h
 obtain ⟨i,j,rfl,rfl,q⟩:=h
 obtain ⟨t,rfl⟩:=rx
 obtain ⟨t',rfl⟩:=ry
 exact PySem.P.le_str ⟨.bl _,H,I,rfl,q⟩
theorem op_cmp (hu:X.A.units+100 < cLine) (op:COp):OpR X (compareOp (cOf op)) (rCmp X.K op):=by
 intro pins s σ H x y v u Q I rx ry h
 obtain ⟨ads,M,wx,wy,m,r1,r2,hn,h⟩:=h
 unfold cmpW at h
 cases op with
 | eq =>
  dsimp only at h
  have dicty:OkC X.K ads H Q (match dctW M wx,dctW M wy with
   | some ka,some kb=>match eqKs M kb ka with
    | some r=>.ok (ka.length == kb.length && r) M
    | none=>.stuck
   | _,_=>.stuck)->wpAny (model X.prog X.w) X.A (compareOp .Eq v u) (EP X pins σ Q) X.xe s:=by
   intro h
   cases q1:dctW M wx with
   | none=>rw [q1] at h;exact h.elim
   | some ka =>
    cases q2:dctW M wy with
    | none=>rw [q1,q2] at h;exact h.elim
    | some kb =>
     rw [q1,q2] at h
     dsimp only at h
     cases q3:eqKs M kb ka with
     | none=>rw [q3] at h;exact h.elim
     | some r =>
      rw [q3] at h
      dsimp only at h
      obtain ⟨a,ksa,rfl,ha,ra⟩:=dct_ok m r1 q1
      obtain ⟨b,ksb,rfl,hb,rb⟩:=dct_ok m r2 q2
      cases rx
      cases ry
      obtain ⟨za,hda,vsa,va,dda⟩:=dk_of I.hok ha
      obtain ⟨zb,hdb,vsb,vb,ddb⟩:=dk_of I.hok hb
      refine PySem.W.keq_eq hda hdb dda ddb (∅) (fun _=>hits_ok I m hu rb vb ra va q3) ⟨.bl _,H,I,rfl,?_⟩
      have e1:vsa.length=ka.length:=by rw [<- va.length,ra.len]
      have e2:vsb.length=kb.length:=by rw [<- vb.length,rb.len]
      rw [e1,e2]
      exact h.now m
  cases q1:pyW M wx with
  | none=>rw [q1] at h;exact dicty h
  | some p =>
   cases q2:pyW M wy with
   | none=>rw [q1,q2] at h;exact dicty h
   | some q =>
    rw [q1,q2] at h
    dsimp only at h
    split at h
    ·rename_i hs
     obtain ⟨as,ra⟩:=reads_w I m r1 rx q1
     obtain ⟨bs,rb⟩:=reads_w I m r2 ry q2
     exact SeqAt.compareEq_shaped ra rb hs.1 hs.2 (∅) ⟨.bl _,H,I,rfl,h.now m⟩
    ·exact h.elim
 | ne =>
  dsimp only at h
  cases q1:pyW M wx with
  | none=>rw [q1] at h;exact h.elim
  | some p =>
   cases q2:pyW M wy with
   | none=>rw [q1,q2] at h;exact h.elim
   | some q =>
    rw [q1,q2] at h
    dsimp only at h
    split at h
    ·rename_i hs
     obtain ⟨as,ra⟩:=reads_w I m r1 rx q1
     obtain ⟨bs,rb⟩:=reads_w I m r2 ry q2
     exact SeqAt.compareNe_shaped ra rb hs.1 hs.2 (∅) ⟨.bl _,H,I,rfl,h.now m⟩
    ·exact h.elim
 | lt =>
  dsimp only at h
  split at h
  ·rw [rw_int r1] at rx;rw [rw_int r2] at ry
   exact op_lt pins s σ H _ _ v u Q I rx ry ⟨_,_,rfl,rfl,h.now m⟩
  ·rw [rw_str r1] at rx;rw [rw_str r2] at ry
   exact op_lt_str pins s σ H _ _ v u Q I rx ry ⟨_,_,rfl,rfl,h.now m⟩
  ·exact h.elim
 | le =>
  dsimp only at h
  split at h
  ·rw [rw_int r1] at rx;rw [rw_int r2] at ry
   exact op_le pins s σ H _ _ v u Q I rx ry ⟨_,_,rfl,rfl,h.now m⟩
  ·rw [rw_str r1] at rx;rw [rw_str r2] at ry
   exact op_le_str pins s σ H _ _ v u Q I rx ry ⟨_,_,rfl,rfl,h.now m⟩
  ·exact h.elim
 | gt =>
  dsimp only at h
  split at h
  ·rw [rw_int r1] at rx;rw [rw_int r2] at ry
   exact op_gt pins s σ H _ _ v u Q I rx ry ⟨_,_,rfl,rfl,h.now m⟩
  ·exact h.elim
 | ge =>
  dsimp only at h
  split at h
  ·rw [rw_int r1] at rx;rw [rw_int r2] at ry
   exact op_ge pins s σ H _ _ v u Q I rx ry ⟨_,_,rfl,rfl,h.now m⟩
  ·exact h.elim
 | isN =>
  have e:=hn (.inl rfl)
  have hx:∀ b,cmpW .isN wx wy M=.ok b M->b=decide (x=.non):=by
   intro b e
   unfold cmpW at e
   dsimp only at e
   split at e
   ·cases e;rw [rw_non r1];rfl
   ·rename_i hne
    cases e
    refine (zqay ?_).symm
    intro z
    subst z
    cases wx with
    | lv ds=>obtain ⟨a,xs,e,_⟩:=r1;cases e
    | d z=>cases z with
     | non=>exact hne rfl
     | bl b=>have:=rw_bl r1;cases this
     | int b=>have:=rw_int r1;cases this
     | str b=>have:=rw_str r1;cases this
     | tup b=>have r1:RD X.K ads H (.tup b) .non:=r1;unfold RD at r1;obtain ⟨a,xs,e,_⟩:=r1;cases e
     | adr b=>have r1:RD X.K ads H (.adr b) .non:=r1;unfold RD at r1;obtain ⟨a,e,_⟩:=r1;cases e
     | ls b=>have r1:RD X.K ads H (.ls b) .non:=r1;unfold RD at r1;obtain ⟨a,xs,e,_⟩:=r1;cases e
  subst e
  have:∃ b,cmpW .isN wx wy M=.ok b M:=by unfold cmpW;dsimp only;split <;> exact ⟨_,rfl⟩
  obtain ⟨b,hb⟩:=this
  have h:OkC X.K ads H Q (cmpW .isN wx wy M):=h
  rw [hb] at h
  refine op_isN pins s σ H _ _ v u Q I rx ry ⟨rfl,?_⟩
  rw [<- hx b hb]
  exact h.now m
 | notN =>
  have e:=hn (.inr rfl)
  have hx:∀ b,cmpW .notN wx wy M=.ok b M->b=!decide (x=.non):=by
   intro b e
   unfold cmpW at e
   dsimp only at e
   split at e
   ·cases e;rw [rw_non r1];rfl
   ·rename_i hne
    cases e
    have:decide (x=.non)=false:=by
     refine zqay ?_
     intro z
     subst z
     cases wx with
     | lv ds=>obtain ⟨a,xs,e,_⟩:=r1;cases e
     | d z=>cases z with
      | non=>exact hne rfl
      | bl b=>have:=rw_bl r1;cases this
      | int b=>have:=rw_int r1;cases this
      | str b=>have:=rw_str r1;cases this
      | tup b=>have r1:RD X.K ads H (.tup b) .non:=r1;unfold RD at r1;obtain ⟨a,xs,e,_⟩:=r1;cases e
      | adr b=>have r1:RD X.K ads H (.adr b) .non:=r1;unfold RD at r1;obtain ⟨a,e,_⟩:=r1;cases e
      | ls b=>have r1:RD X.K ads H (.ls b) .non:=r1;unfold RD at r1;obtain ⟨a,xs,e,_⟩:=r1;cases e
    rw [this];rfl
  subst e
  have:∃ b,cmpW .notN wx wy M=.ok b M:=by unfold cmpW;dsimp only;split <;> exact ⟨_,rfl⟩
  obtain ⟨b,hb⟩:=this
  have h:OkC X.K ads H Q (cmpW .notN wx wy M):=h
  rw [hb] at h
  refine op_notN pins s σ H _ _ v u Q I rx ry ⟨rfl,?_⟩
  rw [<- hx b hb]
  exact h.now m
 | isin =>
  dsimp only at h
  cases q2:seqW M wy with
  | none =>
   rw [q2] at h
   have h:OkC X.K ads H Q (match keyW wx,dctW M wy with
    | some k,some kvs=>.ok ((getK kvs k).isSome) M
    | _,_=>.stuck):=by cases hp:pyW M wx <;> rw [hp] at h <;> exact h
   cases q3:keyW wx with
   | none=>rw [q3] at h;exact h.elim
   | some k =>
    cases q4:dctW M wy with
    | none=>rw [q3,q4] at h;exact h.elim
    | some kvs =>
     rw [q3,q4] at h
     have ek:=key_ok r1 q3
     subst ek
     obtain ⟨a,ks,rfl,ha,ra⟩:=dct_ok m r2 q4
     cases ry
     obtain ⟨o,g,eo⟩:=dget_of (k:=k) ha ra
     refine d_in (∅) I g rx fun s' I'=>⟨.bl _,H,I',rfl,?_⟩
     rw [eo]
     exact h.now m
  | some lds =>
   cases q1:pyW M wx with
   | none=>rw [q1,q2] at h;exact h.elim
   | some p =>
    obtain ⟨l,ds⟩:=lds
    rw [q1,q2] at h
    dsimp only at h
    cases q3:pyDs M 30 ds with
    | none=>rw [q3] at h;exact h.elim
    | some qs =>
     rw [q3] at h
     dsimp only at h
     split at h
     ·rename_i hs
      obtain ⟨as,ra⟩:=reads_w I m r1 rx q1
      obtain ⟨a,xs,ea,rd,sq⟩:=seq_ok m r2 q2
      subst ea
      cases ry
      rcases sq with ⟨_,sq⟩|⟨_,sq⟩
      ·obtain ⟨its,rv,pl,_⟩:=I.list sq
       obtain ⟨bs,rb⟩:=reads_all I 30 (reads_d I m 30) ds xs its qs rd rv q3
       obtain ⟨e,he,hany⟩:=eqs_all (A:=X.A) ra hs.1 (∅) rb hs.2
       refine SeqAt.in_listAt e pl.isList (fun y hy=>he y (by simpa using hy)) ⟨.bl _,H,I,rfl,?_⟩
       have:its.toArray.any e=inPy p qs:=by rw [<- hany];simp
       rw [this];exact h.now m
      ·obtain ⟨its,rv,pl,_⟩:=I.tuple sq
       obtain ⟨bs,rb⟩:=reads_all I 30 (reads_d I m 30) ds xs its qs rd rv q3
       obtain ⟨e,he,hany⟩:=eqs_all (A:=X.A) ra hs.1 (∅) rb hs.2
       refine SeqAt.in_tupleAt e (show s.heap.IsTuple a its.toArray from pl) (fun y hy=>he y (by simpa using hy)) ⟨.bl _,H,I,rfl,?_⟩
       have:its.toArray.any e=inPy p qs:=by rw [<- hany];simp
       rw [this];exact h.now m
     ·exact h.elim
 | notin =>
  dsimp only at h
  cases q2:seqW M wy with
  | none =>
   rw [q2] at h
   have h:OkC X.K ads H Q (match keyW wx,dctW M wy with
    | some k,some kvs=>.ok (!(getK kvs k).isSome) M
    | _,_=>.stuck):=by cases hp:pyW M wx <;> rw [hp] at h <;> exact h
   cases q3:keyW wx with
   | none=>rw [q3] at h;exact h.elim
   | some k =>
    cases q4:dctW M wy with
    | none=>rw [q3,q4] at h;exact h.elim
    | some kvs =>
     rw [q3,q4] at h
     have ek:=key_ok r1 q3
     subst ek
     obtain ⟨a,ks,rfl,ha,ra⟩:=dct_ok m r2 q4
     cases ry
     obtain ⟨o,g,eo⟩:=dget_of (k:=k) ha ra
     refine d_notIn (∅) I g rx fun s' I'=>⟨.bl _,H,I',rfl,?_⟩
     rw [eo]
     exact h.now m
  | some lds =>
   cases q1:pyW M wx with
   | none=>rw [q1,q2] at h;exact h.elim
   | some p =>
    obtain ⟨l,ds⟩:=lds
    rw [q1,q2] at h
    dsimp only at h
    cases q3:pyDs M 30 ds with
    | none=>rw [q3] at h;exact h.elim
    | some qs =>
     rw [q3] at h
     dsimp only at h
     split at h
     ·rename_i hs
      obtain ⟨as,ra⟩:=reads_w I m r1 rx q1
      obtain ⟨a,xs,ea,rd,sq⟩:=seq_ok m r2 q2
      subst ea
      cases ry
      rcases sq with ⟨_,sq⟩|⟨_,sq⟩
      ·obtain ⟨its,rv,pl,_⟩:=I.list sq
       obtain ⟨bs,rb⟩:=reads_all I 30 (reads_d I m 30) ds xs its qs rd rv q3
       obtain ⟨e,he,hany⟩:=eqs_all (A:=X.A) ra hs.1 (∅) rb hs.2
       refine SeqAt.notIn_listAt e pl.isList (fun y hy=>he y (by simpa using hy)) ⟨.bl _,H,I,rfl,?_⟩
       have:its.toArray.any e=inPy p qs:=by rw [<- hany];simp
       rw [this];exact h.now m
      ·obtain ⟨its,rv,pl,_⟩:=I.tuple sq
       obtain ⟨bs,rb⟩:=reads_all I 30 (reads_d I m 30) ds xs its qs rd rv q3
       obtain ⟨e,he,hany⟩:=eqs_all (A:=X.A) ra hs.1 (∅) rb hs.2
       refine SeqAt.notIn_tupleAt e (show s.heap.IsTuple a its.toArray from pl) (fun y hy=>he y (by simpa using hy)) ⟨.bl _,H,I,rfl,?_⟩
       have:its.toArray.any e=inPy p qs:=by rw [<- hany];simp
       rw [this];exact h.now m
     ·exact h.elim
end
end
section
variable [EX]
section
variable {K:PySem.W.Frag} {ads:List Addr} {H:Hp} {M:Mem}
theorem tru_w {w:W} {v:V} {k:Bool} (m:MRel K ads H M) (r:RW K ads H w v) (e:truW M w=some k):TruV K v H k:=by
 have seq:∀ w,RW K ads H w v->((seqW M w).map fun p=>!p.2.isEmpty)=some k->TruV K v H k:=by
  intro w r e
  cases q:seqW M w with
  | none=>rw [q] at e;cases e
  | some p =>
   obtain ⟨l,ds⟩:=p
   rw [q] at e
   have e:(!ds.isEmpty)=k:=zqag e
   obtain ⟨a,xs,rfl,rd,sq⟩:=seq_ok m r q
   have hl:=rd.len
   have ex:k=!xs.isEmpty:=by
    rw [<- e]
    cases ds <;> cases xs <;> simp_all
   rcases sq with ⟨_,sq⟩|⟨_,sq⟩
   ·exact .inl ⟨xs,sq,ex⟩
   ·exact .inr (.inl ⟨xs,sq,ex⟩)
 cases w with
 | lv ds=>exact seq _ r e
 | d x =>
  cases x with
  | non=>rw [rw_non r];exact (zqag e).symm
  | bl b=>rw [rw_bl r];exact (zqag e).symm
  | int i=>rw [rw_int r];exact (zqag e).symm
  | str s=>exact seq _ r e
  | tup ds=>exact seq _ r e
  | adr n=>exact seq _ r e
  | ls n=>exact seq _ r e
theorem RDs.atI {ds:List D} {xs:List V} {i:Int} {d:D} (r:RDs K ads H ds xs) (e:L2.atI ds i=some d):∃ v,L2.atI xs i=some v/\RD K ads H d v:=by
 unfold L2.atI at e ⊢
 rw [<- r.len]
 cases q:ixN ds.length i with
 | none=>rw [q] at e;cases e
 | some j=>rw [q] at e;exact r.get e
theorem RKs.any {κ:Type} [DecidableEq κ] {k:κ}:∀ {kvs:List (κ×D)} {ks:List (κ×V)},RKs K ads H kvs ks->(kvs.any fun kv=>decide (kv.1=k))=(ks.any fun kv=>decide (kv.1=k))
 | [],_,r=>by unfold RKs at r;subst r;rfl
 | p::ps,ks,r=>by unfold RKs at r;obtain ⟨x,r',rfl,h0,h1,h2⟩:=r;simp [RKs.any h2,h0]
theorem RKs.map {κ:Type} [DecidableEq κ] {k:κ} {d:D} {v:V} (rd:RD K ads H d v):∀ {kvs:List (κ×D)} {ks:List (κ×V)},RKs K ads H kvs ks->RKs K ads H (kvs.map fun kv=>if kv.1=k then (kv.1,d) else kv) (ks.map fun kv=>if kv.1=k then (kv.1,v) else kv)
 | [],_,r=>by unfold RKs at r;subst r;simp;unfold RKs;rfl
 | p::ps,ks,r=>by
  unfold RKs at r
  obtain ⟨x,r',rfl,h0,h1,h2⟩:=r
  simp only [zqbm]
  unfold RKs
  refine ⟨_,_,rfl,?_,?_,RKs.map rd h2⟩
  ·rw [h0];split <;> first | rfl | exact h0
  ·rw [h0];split <;> first | exact rd | exact h1
theorem RKs.app {κ:Type}:∀ {kvs es:List (κ×D)} {ks fs:List (κ×V)},RKs K ads H kvs ks->RKs K ads H es fs->RKs K ads H (kvs++es) (ks++fs)
 | [],_,_,_,r,q=>by unfold RKs at r;subst r;exact q
 | p::ps,es,ks,fs,r,q=>by
  unfold RKs at r
  obtain ⟨x,r',rfl,h0,h1,h2⟩:=r
  show RKs K ads H (p::(ps++es)) (x::(r'++fs))
  unfold RKs;exact ⟨x,_,rfl,h0,h1,RKs.app h2 q⟩
theorem RKs.put {κ:Type} [DecidableEq κ] {k:κ} {d:D} {v:V} {kvs:List (κ×D)} {ks:List (κ×V)} (r:RKs K ads H kvs ks) (rd:RD K ads H d v):RKs K ads H (putD kvs k d) (putK ks k v):=by
 unfold putD putK
 rw [r.any (k:=k)]
 split
 ·exact RKs.map rd r
 ·refine r.app ?_
  unfold RKs
  exact ⟨_,[],rfl,rfl,rd,by unfold RKs;rfl⟩
end
section
variable {X:Cx} {M':Mem}
def rSub (K:PySem.W.Frag):R2:=fun x y H Q=>∃ ads M wx wy,MRel K ads H M/\RW K ads H wx x/\RW K ads H wy y/\OkW K ads H Q (subW wx wy M)
theorem ix_sub (hu:X.A.units+1 < cLine):IxR X (rSub X.K):=by
 intro value slice pins s σ H x y v u Q I rx ry h hs
 obtain ⟨ads,M,wx,wy,m,r1,r2,h⟩:=h
 unfold subW at h
 split at h
 ·rename_i i
  have ey:=rw_int r2
  subst ey
  cases q:seqW M wx with
  | some p =>
   obtain ⟨l,ds⟩:=p
   rw [q] at h
   dsimp only at h
   cases q2:ixD ds i with
   | none=>rw [q2] at h;exact h.elim
   | some d =>
    rw [q2] at h
    obtain ⟨a,xs,rfl,rd,sq⟩:=seq_ok m r1 q
    obtain ⟨z,e2,rz⟩:=rd.atI q2
    rcases sq with ⟨_,sq⟩|⟨_,sq⟩
    ·exact ix_list value slice pins s σ H _ _ v u Q I rx ry ⟨a,xs,i,z,rfl,rfl,sq,e2,h.plain m rz⟩ hs
    ·exact ix_tup value slice pins s σ H _ _ v u Q I rx ry ⟨a,xs,i,z,rfl,rfl,sq,e2,h.plain m rz⟩ hs
  | none =>
   rw [q] at h
   dsimp only at h
   split at h
   ·split at h
    ·rename_i z hz
     have ex:=rw_str r1
     subst ex
     cases q2:L2.atI z.cps.toList i with
     | none=>rw [q2] at h;exact h.elim
     | some c =>
      rw [q2] at h
      exact ix_str value slice pins s σ H _ _ v u Q I rx ry ⟨_,i,c,rfl,rfl,hz,q2,h.plain m (rd_str _)⟩ hs
    ·exact h.elim
   ·rename_i n
    have r1:RD X.K ads H (.adr n) x:=r1
    unfold RD at r1
    obtain ⟨a,rfl,ea⟩:=r1
    split at h
    ·rename_i kvs q
     obtain ⟨ks,hk,rk⟩:=m.obj n _ a q ea
     split at h
     ·rename_i d q2
      obtain ⟨z,e2,rz⟩:=rk.find (k:=Sum.inl i) q2
      cases rx
      have g:DGet H a (kV (Sum.inl i)) (some z):=by have:=DGet.k (k:=Sum.inl i) hk;rw [e2] at this;exact this
      exact tail_any (dict_typeIs I g) F.slot_dict_getitem.lookup (d_getItem hu I g ry fun w' s' I' rw'=>⟨z,H,I',rw',h.plain m rz⟩) hs
     ·exact h.elim
    ·exact h.elim
   ·exact h.elim
 ·rename_i k
  have ey:=rw_str r2
  subst ey
  split at h
  ·rename_i n
   have r1:RD X.K ads H (.adr n) x:=r1
   unfold RD at r1
   obtain ⟨a,rfl,ea⟩:=r1
   split at h
   ·rename_i kvs q
    obtain ⟨ks,hk,rk⟩:=m.obj n _ a q ea
    split at h
    ·rename_i d q2
     obtain ⟨z,e2,rz⟩:=rk.find (k:=Sum.inr k) q2
     cases rx
     have g:DGet H a (kV (Sum.inr k)) (some z):=by have:=DGet.k (k:=Sum.inr k) hk;rw [e2] at this;exact this
     exact tail_any (dict_typeIs I g) F.slot_dict_getitem.lookup (d_getItem hu I g ry fun w' s' I' rw'=>⟨z,H,I',rw',h.plain m rz⟩) hs
    ·exact h.elim
   ·exact h.elim
  ·exact h.elim
 ·exact h.elim
theorem OkW.dnew {K:PySem.W.Frag} {ads:List Addr} {H:Hp} {Q:VK} {M:Mem} {kvs:List (Key×D)} {ks:List (Key×V)} {p:Addr} (q:OkW K ads H Q (.ok (.d (.adr M.length)) (M++[.dK kvs]))) (m:MRel K ads H M) (hp:H p=none) (r:RKs K ads H kvs ks):Q (.ref p) (upd H p (.dK ks)):=by
 have pn:=m.fresh hp
 have g0:Grow ads ads H (upd H p (.dK ks)):=Grow.new1 m hp
 have m1:MRel K ads (upd H p (.dK ks)) M:=m.new1 hp
 have m2:=m1.push (o:=.dK kvs) pn ⟨_,upd_same,g0.rks _ _ r⟩
 refine q (.ref p) _ (ads++[p]) ⟨⟨[p],rfl⟩,fun b hb nb=>?_,g0.kept,g0.tups,g0.frz⟩ m2 ?_
 ·rcases zqbx.mp hb with z | z
  ·exact absurd z nb
  ·have:b=p:=by simpa using z
   subst this;exact hp
 ·show RD K (ads++[p]) (upd H p (.dK ks)) (.adr M.length) (.ref p)
  unfold RD
  exact ⟨p,rfl,by rw [zqaw (by rw [m.len];exact zqae _)];simp [m.len]⟩
def RWs (K:PySem.W.Frag) (ads:List Addr) (H:Hp):List W->List V->Prop
 | [],vs=>vs=[]
 | w::ws,vs=>∃ v r,vs=v::r/\RW K ads H w v/\RWs K ads H ws r
def rBi (K:PySem.W.Frag) (b:Bi):List V->Hp->VK->Prop:=fun vs H Q=>∃ ads M ws,MRel K ads H M/\RWs K ads H ws vs/\OkW K ads H Q (biW b ws M)
theorem RWs.one {K:PySem.W.Frag} {ads:List Addr} {H:Hp} {w:W} {vs:List V} (r:RWs K ads H [w] vs):∃ v,vs=[v]/\RW K ads H w v:=by
 obtain ⟨v,r,rfl,h,h2⟩:=r
 have h2:r=[]:=h2
 subst h2
 exact ⟨v,rfl,h⟩
theorem RWs.two {K:PySem.W.Frag} {ads:List Addr} {H:Hp} {w w2:W} {vs:List V} (r:RWs K ads H [w,w2] vs):∃ v v2,vs=[v,v2]/\RW K ads H w v/\RW K ads H w2 v2:=by
 obtain ⟨v,r,rfl,h,h2⟩:=r
 obtain ⟨v2,rfl,h3⟩:=RWs.one h2
 exact ⟨v,v2,rfl,h,h3⟩
theorem bi_len:CallR X (.builtin "len") (rBi X.K .len):=by
 intro pins s σ H xs us Q I r h
 obtain ⟨ads,M,ws,m,rw,h⟩:=h
 rcases ws with _|⟨w,_|⟨w2,ws⟩⟩
 ·exact h.elim
 ·obtain ⟨v,rfl,rv⟩:=rw.one
  unfold biW at h
  dsimp only at h
  split at h
  ·rename_i l ds q
   obtain ⟨a,ys,rfl,rd,sq⟩:=seq_ok m rv q
   refine call_len_seq pins s σ H _ us Q I r ⟨a,ys,rfl,?_,by rw [<- rd.len];exact h.plain m (rd_int _)⟩
   rcases sq with ⟨_,sq⟩|⟨_,sq⟩
   ·exact .inl sq
   ·exact .inr sq
  ·split at h
   ·split at h
    ·rename_i hz
     have e1:=rw_str rv
     subst e1
     exact call_len_str pins s σ H _ us Q I r ⟨_,rfl,hz,h.plain m (rd_int _)⟩
    ·exact h.elim
   ·exact h.elim
 ·exact h.elim
theorem bi_list:CallR X (.type "list") (rBi X.K .list1):=by
 intro pins s σ H xs us Q I r h
 obtain ⟨ads,M,ws,m,rw,h⟩:=h
 rcases ws with _|⟨w,_|⟨w2,ws⟩⟩
 ·exact h.elim
 ·obtain ⟨v,rfl,rv⟩:=rw.one
  unfold biW at h
  dsimp only at h
  split at h
  ·rename_i l ds q
   obtain ⟨a,ys,rfl,rd,sq⟩:=seq_ok m rv q
   refine call_list_of pins s σ H _ us Q I r ⟨a,ys,rfl,?_,fun p hp=>h.list m rd hp⟩
   rcases sq with ⟨_,sq⟩|⟨_,sq⟩
   ·exact .inl sq
   ·exact .inr sq
  ·exact h.elim
 ·exact h.elim
theorem bi_tuple:CallR X (.type "tuple") (rBi X.K .tuple1):=by
 intro pins s σ H xs us Q I r h
 obtain ⟨ads,M,ws,m,rw,h⟩:=h
 rcases ws with _|⟨w,_|⟨w2,ws⟩⟩
 ·exact h.elim
 ·obtain ⟨v,rfl,rv⟩:=rw.one
  unfold biW at h
  dsimp only at h
  split at h
  ·rename_i l ds q
   have hq:=q
   obtain ⟨a,ys,rfl,rd,sq⟩:=seq_ok m rv q
   rcases sq with ⟨_,sq⟩|⟨el,sq⟩
   ·exact call_tuple_of pins s σ H _ us Q I r ⟨a,ys,rfl,.inl ⟨sq,fun p hp=>h.tuple m rd hp⟩⟩
   ·refine call_tuple_of pins s σ H _ us Q I r ⟨a,ys,rfl,.inr ⟨sq,h.plain m ?_⟩⟩
    subst el
    cases w with
    | lv es=>cases hq
    | d x =>
     cases x with
     | tup es =>
      have e:es=ds:=by simpa [seqW] using hq
      subst e
      exact rv
     | adr n =>
      simp only [seqW] at hq
      split at hq <;> cases hq
     | ls _=>cases hq
     | non=>cases hq
     | bl _=>cases hq
     | int _=>cases hq
     | str _=>cases hq
  ·exact h.elim
 ·exact h.elim
theorem bi_max (hc:X.calm=true):CallR X (.builtin "max") (rBi X.K .max2):=by
 intro pins s σ H xs us Q I r h
 obtain ⟨ads,M,ws,m,rw,h⟩:=h
 rcases ws with _|⟨w,_|⟨w2,_|⟨w3,ws⟩⟩⟩
 ·exact h.elim
 ·rcases w with ⟨_|_|_|_|_|_⟩|_ <;> exact h.elim
 ·rcases w with ⟨_|_ | i | _|_|_⟩|_ <;> first | exact h.elim | skip
  rcases w2 with ⟨_|_ | j | _|_|_⟩|_ <;> first | exact h.elim | skip
  obtain ⟨v,v2,rfl,r1,r2⟩:=rw.two
  have e1:=rw_int r1
  have e2:=rw_int r2
  subst e1 e2
  exact call_max2 hc pins s σ H _ us Q I r ⟨i,j,rfl,OkW.plain h m (rd_int _)⟩
 ·rcases w with ⟨_|_ | i | _|_|_⟩|_ <;> first | exact h.elim | skip
  rcases w2 with ⟨_|_ | j | _|_|_⟩|_ <;> exact h.elim
theorem nodict_all (n:Nat) (hA:∀ d p,pyD M' n d=some p->p.hasDict=false):∀ (ds:List D) (ps:List PyData),pyDs M' n ds=some ps->PyData.hasDictAll ps=false
 | [],ps,e=>by unfold pyDs at e;cases e;rfl
 | d::ds,ps,e=>by
  unfold pyDs at e
  cases q1:pyD M' n d with
  | none=>rw [q1] at e;cases e
  | some p =>
   cases q2:pyDs M' n ds with
   | none=>rw [q1,q2] at e;cases e
   | some qs =>
    rw [q1,q2] at e
    cases e
    rw [PyData.hasDictAll,hA d p q1,nodict_all n hA ds qs q2]
    rfl
theorem nodict_d:∀ (n:Nat) (d:D) (p:PyData),pyD M' n d=some p->p.hasDict=false:=by
 intro n
 induction n with
 | zero=>intro d p e;cases d <;> (unfold pyD at e;cases e) <;> simp [PyData.hasDict]
 | succ n ih =>
  intro d p e
  cases d with
  | tup ds =>
   unfold pyD at e
   cases q:pyDs M' n ds with
   | none=>rw [q] at e;cases e
   | some ps=>rw [q] at e;cases e;rw [PyData.hasDict];exact nodict_all n ih ds ps q
  | adr k =>
   unfold pyD at e
   split at e
   ·cases q:pyDs M' n _ with
    | none=>rw [q] at e;cases e
    | some ps=>rw [q] at e;cases e;rw [PyData.hasDict];exact nodict_all n ih _ ps q
   ·cases q:pyDs M' n _ with
    | none=>rw [q] at e;cases e
    | some ps=>rw [q] at e;cases e;rw [PyData.hasDict];exact nodict_all n ih _ ps q
   ·cases e
  | ls ds =>
   unfold pyD at e
   cases q:pyDs M' n ds with
   | none=>rw [q] at e;cases e
   | some ps=>rw [q] at e;cases e;rw [PyData.hasDict];exact nodict_all n ih ds ps q
  | non=>unfold pyD at e;cases e;simp [PyData.hasDict]
  | bl _=>unfold pyD at e;cases e;simp [PyData.hasDict]
  | int _=>unfold pyD at e;cases e;simp [PyData.hasDict]
  | str _=>unfold pyD at e;cases e;simp [PyData.hasDict]
theorem bi_int:CallR X (.type "int") (rBi X.K .int1):=by
 intro pins s σ H xs us Q I r h
 obtain ⟨ads,M,ws,m,rw,h⟩:=h
 rcases ws with _|⟨w,_|⟨w2,ws⟩⟩
 ·exact h.elim
 ·obtain ⟨v,rfl,rv⟩:=rw.one
  cases w with
  | lv ds=>exact h.elim
  | d x =>
   cases x with
   | int i =>
    have e:=rw_int rv
    subst e
    exact call_int1 pins s σ H _ us Q I r (.inl ⟨i,rfl,OkW.plain h m (rd_int _)⟩)
   | bl i =>
    have e:=rw_bl rv
    subst e
    exact call_int1 pins s σ H _ us Q I r (.inr ⟨i,rfl,OkW.plain h m (rd_int _)⟩)
   | non=>exact h.elim
   | str _=>exact h.elim
   | tup _=>exact h.elim
   | adr _=>exact h.elim
   | ls _=>exact h.elim
 ·rcases w with ⟨_|_|_|_|_|_⟩|_ <;> exact h.elim
theorem bi_repr {k:Nat} (hr:Room k X.A):CallR X (.builtin "repr") (rBi X.K .repr1):=by
 intro pins s σ H xs us Q I r h
 obtain ⟨ads,M,ws,m,rw,h⟩:=h
 rcases ws with _|⟨w,_|⟨w2,ws⟩⟩
 ·exact h.elim
 ·obtain ⟨v,rfl,rv⟩:=rw.one
  unfold biW at h
  dsimp only at h
  split at h
  ·rename_i p q
   split at h
   ·rename_i hs
    obtain ⟨u,rfl,ru⟩:=vals1 r
    obtain ⟨as,ra⟩:=reads_w I m rv ru q
    have hun:=hr.un
    have fin:∀ (h':Heap) (t:Tok) (tk:Nat),(∀ b o,s.heap.get? b=some o->h'.get? b=some o)->EP X pins σ Q (.str p.shown t) { s with heap:=h',toks:=tk }:=fun h' t tk hk =>
     ⟨.str p.shown,H,I.kept hk,⟨t,rfl⟩,h.plain m (rd_str _)⟩
    have fin0:∀ (t:Tok) (tk:Nat),EP X pins σ Q (.str p.shown t) { s with toks:=tk }:=fun t tk=>fin s.heap t tk fun _ _ e=>e
    have nd:p.hasDict=false:=by
     cases w with
     | d x=>exact nodict_d 30 x p q
     | lv ds =>
      have e:(pyDs M 30 ds).map PyData.list=some p:=q
      cases q2:pyDs M 30 ds with
      | none=>rw [q2] at e;cases e
      | some ps=>rw [q2] at e;cases e;rw [PyData.hasDict];exact nodict_all 30 (nodict_d 30) ds ps q2
    cases ra with
    | none=>exact PySem.P.repr_of_none (fin0 _ _)
    | bool b=>exact PySem.P.repr_of_bool (fin0 _ _)
    | int i t=>exact PySem.P.repr_of_int (of_decide_eq_true hs.1) (fin0 _ _)
    | str x t=>exact PySem.P.repr_of_str (fin0 _ _) hs.2.2
    | list h1 h2 h3 h4=>exact repr_of_reads' (.list h1 h2 h3 h4) hs.1 (PyData.noDict_hsm nd) hr.gd (by have:=hs.2.1;omega) (fun _ _ e=>e) (fun h' t tk hk=>fin h' t tk hk) hs.2.2
    | tuple h1 h2 h3 h4=>exact repr_of_reads' (.tuple h1 h2 h3 h4) hs.1 (PyData.noDict_hsm nd) hr.gd (by have:=hs.2.1;omega) (fun _ _ e=>e) (fun h' t tk hk=>fin h' t tk hk) hs.2.2
    | dict h1 h2 h3 h4 h5=>rw [PyData.hasDict] at nd;cases nd
   ·exact h.elim
  ·exact h.elim
 ·exact h.elim
noncomputable def tyOf:Ty->String
 | .int => "int" | .bool => "bool" | .str => "str" | .tuple => "tuple" | .list => "list" | .dict => "dict" | .none => "NoneType"
theorem kit_isi (K:PySem.W.Frag):∀ g t:Ty,PySem.W.kitOne K (.type (tyOf g)) (.type (tyOf t))=some (decide (g=t) || (decide (g=.bool) && decide (t=.int))):=by
 intro g t
 cases g <;> cases t <;> kernel_rfl
theorem tag_ok {K:PySem.W.Frag} {ads:List Addr} {H:Hp} {M:Mem} {w:W} {v:V} {g:Ty} (m:MRel K ads H M) (r:RW K ads H w v) (e:tagW M w=some g):TyOf K H v (.type (tyOf g)):=by
 cases w with
 | lv ds=>cases e;obtain ⟨a,xs,rfl,h,_⟩:=r;exact .lst h
 | d x =>
  cases x with
  | non=>cases e;rw [rw_non r];exact .non
  | bl b=>cases e;rw [rw_bl r];exact .bl b
  | int b=>cases e;rw [rw_int r];exact .int b
  | str b=>cases e;rw [rw_str r];exact .str b
  | ls b=>cases e
  | tup b=>cases e;have r:RD K ads H (.tup b) v:=r;unfold RD at r;obtain ⟨a,xs,rfl,h,_⟩:=r;exact .tup h
  | adr n =>
   have r:RD K ads H (.adr n) v:=r
   unfold RD at r
   obtain ⟨a,rfl,ea⟩:=r
   unfold tagW at e;dsimp only at e
   cases q:M[n]? with
   | none=>rw [q] at e;cases e
   | some o =>
    rw [q] at e
    have ho:=m.obj n o a q ea
    cases o with
    | lst es=>cases e;obtain ⟨xs,h,_⟩:=ho;exact .lst h
    | scr es=>cases e;obtain ⟨o,xs,h,_⟩:=ho;exact .frz h
    | dK es=>cases e;obtain ⟨xs,h,_⟩:=ho;exact .dK h
    | dT es=>cases e;obtain ⟨xs,h,_⟩:=ho;exact .dT h
    | dF es=>cases e
    | xc _ _=>cases e
theorem bi_isi (t:Ty):CallR X (.builtin "isinstance") (fun vs H Q=>∃ v,vs=[v,.ty (tyOf t)]/\rBi X.K (.isi t) [v] H Q):=by
 intro pins s σ H xs us Q I r h
 obtain ⟨v,rfl,ads,M,ws,m,rw,h⟩:=h
 obtain ⟨u,u2,rfl,r1,r2⟩:=vals2 r
 rcases ws with _|⟨w,_|⟨w2,ws⟩⟩
 ·exact h.elim
 ·obtain ⟨v',e,rv⟩:=rw.one
  cases e
  unfold biW at h
  dsimp only at h
  split at h
  ·rename_i g q
   have e2:u2=Value.type (tyOf t):=r2
   subst e2
   exact isinst_ok I r1 (tag_ok m rv q) (kit_isi X.K g t) fun tk=>⟨.bl _,H,I.tok tk,rfl,h.plain m (rd_bl _)⟩
  ·exact h.elim
 ·obtain ⟨_,_,e,_,_,_,e2,_⟩:=rw
  cases e
  cases e2
end
end
section
variable [EX]
section
variable {X:Cx}
def rMe (K:PySem.W.Frag) (me:Me):V->List V->Hp->VK->Prop:=fun x vs H Q=>∃ ads M wx ds,MRel K ads H M/\RW K ads H wx x/\RDs K ads H ds vs/\OkW K ads H Q (meW me wx ds M)
theorem RDs.one' {K:PySem.W.Frag} {ads:List Addr} {H:Hp} {d:D} {vs:List V} (r:RDs K ads H [d] vs):∃ v,vs=[v]/\RD K ads H d v:=by
 unfold RDs at r
 obtain ⟨v,r',rfl,h,h2⟩:=r
 unfold RDs at h2
 subst h2
 exact ⟨v,rfl,h⟩
theorem OkW.wrote {K:PySem.W.Frag} {ads:List Addr} {H:Hp} {M:Mem} {n:Nat} {a:Addr} {ds es:List D} {ys:List V} {x:D} {Q:VK} {v:V} (h:OkW K ads H Q (.ok (.d x) (M.set n (.lst es)))) (m:MRel K ads H M) (q:M[n]?=some (.lst ds)) (ea:ads[n]?=some a) (ha:∃ xs,H a=some (.lst xs)) (ry:RDs K ads H es ys) (rx:RD K ads (upd H a (.lst ys)) x v):Q v (upd H a (.lst ys)):=by
 obtain ⟨xs,ha⟩:=ha
 have nf:∀ o x,H a≠some (.frz o x):=fun o x z=>by rw [ha] at z;cases z
 have g:Grow ads ads H (upd H a (.lst ys)):=by
  have hin:a∈ads:=zqba ea
  exact ⟨⟨[],by simp⟩,fun b h n=>absurd h n,fun b x nb h=>by rw [upd_ne (by intro z;subst z;exact nb hin)];exact h,fun b xs h=>by
   rw [upd_ne (fun z=>by subst z;rw [ha] at h;cases h)];exact h,fun b o u h=>by rw [upd_ne (fun z=>by subst z;exact nf _ _ h)];exact h⟩
 obtain ⟨g',m'⟩:=m.write (o:=.lst es) (ho:=.lst ys) q ea nf ⟨ys,upd_same,g.rds _ _ ry⟩
 exact h v _ ads g m' rx
theorem me_append:MtR X "list.append" (rMe X.K .append):=by
 intro pins s σ H x vs v us Q I rx rv h
 obtain ⟨ads,M,wx,ds,m,r1,r2,h⟩:=h
 rcases wx with ⟨_|_|_|_|_ | n⟩|_ <;> first | exact h.elim | skip
 have r1:RD X.K ads H (.adr n) x:=r1
 unfold RD at r1
 obtain ⟨a,rfl,ea⟩:=r1
 unfold meW at h;dsimp only at h
 cases q:M[n]? with
 | none=>rw [q] at h;exact h.elim
 | some o =>
  rw [q] at h
  cases o with
  | lst es =>
   rcases ds with _|⟨d,_|⟨d2,ds⟩⟩
   ·exact h.elim
   ·dsimp only at h
    split at h
    ·rename_i hz
     obtain ⟨y,rfl,ry⟩:=r2.one'
     obtain ⟨xs,ha,rd⟩:=m.obj n _ a q ea
     exact mt_append pins s σ H _ _ v us Q I rx rv ⟨a,xs,y,rfl,rfl,ha,by rw [<- rd.len];exact hz,OkW.wrote h m q ea ⟨xs,ha⟩ (rd.app (.one ry)) rd_non⟩
    ·exact h.elim
   ·exact h.elim
  | scr _=>exact h.elim
  | dK _=>exact h.elim
  | dT _=>exact h.elim
  | dF _=>exact h.elim
  | xc _ _=>exact h.elim
def setW (o i:W) (d:D) (M:Mem):Out Unit :=
 match o with
 | .d (.adr n)=>match M[n]? with
  | some (.lst ds)=>match i with
   | .d (.int k)=>match ixN ds.length k with
    | some j=>.ok () (M.set n (.lst (ds.set j d)))
    | none=>.stuck
   | _=>.stuck
  | some (.dK kvs)=>match i with
   | .d (.str k)=>if kvs.length < sizeLine then .ok () (M.set n (.dK (putD kvs (Sum.inr k) d))) else .stuck
   | .d (.int k)=>if kvs.length < sizeLine then .ok () (M.set n (.dK (putD kvs (Sum.inl k) d))) else .stuck
   | _=>.stuck
  | _=>.stuck
 | _=>.stuck
def OkU (K:PySem.W.Frag) (ads:List Addr) (H:Hp) (Q:Hp->Prop):Out Unit->Prop
 | .ok _ M=>∀ H' ads',Grow ads ads' H H'->MRel K ads' H' M->Q H'
 | .err x M=>EX.post K ads H x M
 | .stuck=>False
def rSet (K:PySem.W.Frag):TSet:=fun o i v H Q=>∃ ads M wo wi d,MRel K ads H M/\RW K ads H wo o/\RW K ads H wi i/\RD K ads H d v/\OkU K ads H Q (setW wo wi d M)
theorem set_ok (hu:X.A.units+1 < cLine):PSet X (rSet X.K):=by
 intro pins s σ H o i v ov iv u Q I ro ri rv h
 obtain ⟨ads,M,wo,wi,d,m,r1,r2,r3,h⟩:=h
 rcases wo with ⟨_|_|_|_|_ | n⟩|_ <;> first | exact h.elim | skip
 have r1:RD X.K ads H (.adr n) o:=r1
 unfold RD at r1
 obtain ⟨a,rfl,ea⟩:=r1
 unfold setW at h;dsimp only at h
 cases q:M[n]? with
 | none=>rw [q] at h;exact h.elim
 | some ob =>
  rw [q] at h
  have hin:a∈ads:=zqba ea
  cases ob with
  | lst ds =>
   rcases wi with ⟨_|_ | k | _|_|_⟩|_ <;> first | exact h.elim | skip
   have ei:=rw_int r2
   subst ei
   dsimp only at h
   cases q2:ixN ds.length k with
   | none=>rw [q2] at h;exact h.elim
   | some j =>
    rw [q2] at h
    obtain ⟨xs,ha,rd⟩:=m.obj n _ a q ea
    refine set_list pins s σ H _ _ v ov iv u Q I ro ri rv ⟨a,xs,k,j,rfl,rfl,ha,by rw [<- rd.len];exact q2,?_⟩
    have nf:∀ o x,H a≠some (.frz o x):=fun o x z=>by rw [ha] at z;cases z
    have hg:Grow ads ads H (upd H a (.lst (xs.set j v))):=⟨⟨[],by simp⟩,fun b h n=>absurd h n,fun b x nb h=>by rw [upd_ne (by intro z;subst z;exact nb hin)];exact h,fun b xs h=>by
     rw [upd_ne (fun z=>by subst z;rw [ha] at h;cases h)];exact h,fun b o u h=>by rw [upd_ne (fun z=>by subst z;exact nf _ _ h)];exact h⟩
    obtain ⟨g',m'⟩:=m.write (o:=.lst (ds.set j d)) (ho:=.lst (xs.set j v)) q ea nf ⟨_,upd_same,hg.rds _ _ (rd.setAt j r3)⟩
    exact h _ ads hg m'
  | dK kvs =>
   obtain ⟨ks,ha,rk⟩:=m.obj n _ a q ea
   have nf:∀ o x,H a≠some (.frz o x):=fun o x z=>by rw [ha] at z;cases z
   have put:∀ (k:Key),i=kV k->kvs.length < sizeLine->OkU X.K ads H Q (.ok () (M.set n (.dK (putD kvs k d))))->wpAny (model X.prog X.w) X.A (setItem ov iv u) (fun _ s'=>∃ H',Inv X pins σ H' s'/\Q H') X.xe s:=by
    intro k ek hz h
    subst ek
    cases ro
    refine d_setItem hu I (DPut.k (k:=k) ha (by rw [<- rk.len];exact hz)) ri rv fun s' I'=>⟨_,I',?_⟩
    have hg:Grow ads ads H (upd H a (.dK (putK ks k v))):=⟨⟨[],by simp⟩,fun b h n=>absurd h n,fun b x nb h=>by rw [upd_ne (by intro z;subst z;exact nb hin)];exact h,fun b xs h=>by
     rw [upd_ne (fun z=>by subst z;rw [ha] at h;cases h)];exact h,fun b o u h=>by rw [upd_ne (fun z=>by subst z;exact nf _ _ h)];exact h⟩
    obtain ⟨g',m'⟩:=m.write (o:=.dK (putD kvs k d)) (ho:=.dK (putK ks k v)) q ea nf ⟨_,upd_same,hg.rks _ _ (rk.put r3)⟩
    exact h _ ads hg m'
   rcases wi with ⟨_|_ | k | k | _|_⟩|_ <;> first | exact h.elim | skip
   ·have ei:=rw_int r2
    subst ei
    dsimp only at h
    split at h
    ·rename_i hz
     exact put (Sum.inl k) rfl hz h
    ·exact h.elim
   ·have ei:=rw_str r2
    subst ei
    dsimp only at h
    split at h
    ·rename_i hz
     exact put (Sum.inr k) rfl hz h
    ·exact h.elim
  | scr _=>exact h.elim
  | dT _=>exact h.elim
  | dF _=>exact h.elim
  | xc _ _=>exact h.elim
end
end
section
variable [EX]
structure XI where
 cl:List (Str×Addr×List Str)
 kt:List (IX×Addr×Bool)
 ct:List (Str×Addr×List Str)
 hs:List Nat
abbrev xNil:XI:=⟨[],[],[],[]⟩
structure CC where
 N:List Str
 names:List (Str×NameKind)
 fs:List (Str×Nat)
 gs:List (Str×Int)
 xs:XI
noncomputable def vis (cc:CC) (x:Str):Bool:=match cc.names.lookup x with
 | some .local=>true
 | some .cell=>true
 | some .free=>true
 | _=>false
noncomputable def glob (cc:CC) (x:Str):Bool:=match cc.names.lookup x with
 | some .globalImplicit=>true
 | _=>false
noncomputable def plainName (x:Str):Bool:=!(x == ("__debug__" : Str)) && !(x == ("__classdict__" : Str)) && !(x == ("__name__" : Str))
theorem on_idx {p:Prop} [d:Decidable p] {f:p->Bool} (h:(if h:p then f h else false)=true):p:=by
 cases d with
 | isTrue q=>exact q
 | isFalse q=>rw [dif_neg q] at h;exact absurd h zqaa
noncomputable def onBoolOp (e:Expr) (f:BoolOp->List Expr->Pos->Bool):Bool:=if h:e.ctorIdx=0 then Expr.BoolOp.elim (motive_1:=fun _=>Bool) e h f else false
theorem onBoolOp_el {P:Expr->Prop} {e:Expr} {f:BoolOp->List Expr->Pos->Bool} (h:onBoolOp e f=true) (k:∀ a b c,f a b c=true->P (.BoolOp a b c)):P e :=
 Expr.BoolOp.elim (motive_1:=fun e=>onBoolOp e f=true->P e) e (on_idx h) (fun a b c h=>k a b c h) h
noncomputable def onBinOp (e:Expr) (f:Expr->Operator->Expr->Pos->Bool):Bool:=if h:e.ctorIdx=2 then Expr.BinOp.elim (motive_1:=fun _=>Bool) e h f else false
theorem onBinOp_el {P:Expr->Prop} {e:Expr} {f:Expr->Operator->Expr->Pos->Bool} (h:onBinOp e f=true) (k:∀ a b c d,f a b c d=true->P (.BinOp a b c d)):P e :=
 Expr.BinOp.elim (motive_1:=fun e=>onBinOp e f=true->P e) e (on_idx h) (fun a b c d h=>k a b c d h) h
noncomputable def onUnaryOp (e:Expr) (f:UnaryOp->Expr->Pos->Bool):Bool:=if h:e.ctorIdx=3 then Expr.UnaryOp.elim (motive_1:=fun _=>Bool) e h f else false
theorem onUnaryOp_el {P:Expr->Prop} {e:Expr} {f:UnaryOp->Expr->Pos->Bool} (h:onUnaryOp e f=true) (k:∀ a b c,f a b c=true->P (.UnaryOp a b c)):P e :=
 Expr.UnaryOp.elim (motive_1:=fun e=>onUnaryOp e f=true->P e) e (on_idx h) (fun a b c h=>k a b c h) h
noncomputable def onIfExp (e:Expr) (f:Expr->Expr->Expr->Pos->Bool):Bool:=if h:e.ctorIdx=5 then Expr.IfExp.elim (motive_1:=fun _=>Bool) e h f else false
theorem onIfExp_el {P:Expr->Prop} {e:Expr} {f:Expr->Expr->Expr->Pos->Bool} (h:onIfExp e f=true) (k:∀ a b c d,f a b c d=true->P (.IfExp a b c d)):P e :=
 Expr.IfExp.elim (motive_1:=fun e=>onIfExp e f=true->P e) e (on_idx h) (fun a b c d h=>k a b c d h) h
noncomputable def onDict (e:Expr) (f:List (Option Expr)->List Expr->Pos->Bool):Bool:=if h:e.ctorIdx=6 then Expr.Dict.elim (motive_1:=fun _=>Bool) e h f else false
theorem onDict_el {P:Expr->Prop} {e:Expr} {f:List (Option Expr)->List Expr->Pos->Bool} (h:onDict e f=true) (k:∀ a b c,f a b c=true->P (.Dict a b c)):P e :=
 Expr.Dict.elim (motive_1:=fun e=>onDict e f=true->P e) e (on_idx h) (fun a b c h=>k a b c h) h
noncomputable def onListComp (e:Expr) (f:Expr->List Comprehension->Scope->Pos->Bool):Bool:=if h:e.ctorIdx=8 then Expr.ListComp.elim (motive_1:=fun _=>Bool) e h f else false
theorem onListComp_el {P:Expr->Prop} {e:Expr} {f:Expr->List Comprehension->Scope->Pos->Bool} (h:onListComp e f=true) (k:∀ a b c d,f a b c d=true->P (.ListComp a b c d)):P e :=
 Expr.ListComp.elim (motive_1:=fun e=>onListComp e f=true->P e) e (on_idx h) (fun a b c d h=>k a b c d h) h
noncomputable def onCompare (e:Expr) (f:Expr->List CmpOp->List Expr->Pos->Bool):Bool:=if h:e.ctorIdx=15 then Expr.Compare.elim (motive_1:=fun _=>Bool) e h f else false
theorem onCompare_el {P:Expr->Prop} {e:Expr} {f:Expr->List CmpOp->List Expr->Pos->Bool} (h:onCompare e f=true) (k:∀ a b c d,f a b c d=true->P (.Compare a b c d)):P e :=
 Expr.Compare.elim (motive_1:=fun e=>onCompare e f=true->P e) e (on_idx h) (fun a b c d h=>k a b c d h) h
noncomputable def onCall (e:Expr) (f:Expr->List Expr->List Keyword->Pos->Bool):Bool:=if h:e.ctorIdx=16 then Expr.Call.elim (motive_1:=fun _=>Bool) e h f else false
theorem onCall_el {P:Expr->Prop} {e:Expr} {f:Expr->List Expr->List Keyword->Pos->Bool} (h:onCall e f=true) (k:∀ a b c d,f a b c d=true->P (.Call a b c d)):P e :=
 Expr.Call.elim (motive_1:=fun e=>onCall e f=true->P e) e (on_idx h) (fun a b c d h=>k a b c d h) h
noncomputable def onConstant (e:Expr) (f:Const->Nat->Pos->Bool):Bool:=if h:e.ctorIdx=19 then Expr.Constant.elim (motive_1:=fun _=>Bool) e h f else false
theorem onConstant_el {P:Expr->Prop} {e:Expr} {f:Const->Nat->Pos->Bool} (h:onConstant e f=true) (k:∀ a b c,f a b c=true->P (.Constant a b c)):P e :=
 Expr.Constant.elim (motive_1:=fun e=>onConstant e f=true->P e) e (on_idx h) (fun a b c h=>k a b c h) h
noncomputable def onAttribute (e:Expr) (f:Expr->Str->Pos->Bool):Bool:=if h:e.ctorIdx=20 then Expr.Attribute.elim (motive_1:=fun _=>Bool) e h f else false
theorem onAttribute_el {P:Expr->Prop} {e:Expr} {f:Expr->Str->Pos->Bool} (h:onAttribute e f=true) (k:∀ a b c,f a b c=true->P (.Attribute a b c)):P e :=
 Expr.Attribute.elim (motive_1:=fun e=>onAttribute e f=true->P e) e (on_idx h) (fun a b c h=>k a b c h) h
noncomputable def onSubscript (e:Expr) (f:Expr->Expr->Pos->Bool):Bool:=if h:e.ctorIdx=21 then Expr.Subscript.elim (motive_1:=fun _=>Bool) e h f else false
theorem onSubscript_el {P:Expr->Prop} {e:Expr} {f:Expr->Expr->Pos->Bool} (h:onSubscript e f=true) (k:∀ a b c,f a b c=true->P (.Subscript a b c)):P e :=
 Expr.Subscript.elim (motive_1:=fun e=>onSubscript e f=true->P e) e (on_idx h) (fun a b c h=>k a b c h) h
noncomputable def onName (e:Expr) (f:Str->Pos->Bool):Bool:=if h:e.ctorIdx=23 then Expr.Name.elim (motive_1:=fun _=>Bool) e h f else false
theorem onName_el {P:Expr->Prop} {e:Expr} {f:Str->Pos->Bool} (h:onName e f=true) (k:∀ a b,f a b=true->P (.Name a b)):P e :=
 Expr.Name.elim (motive_1:=fun e=>onName e f=true->P e) e (on_idx h) (fun a b h=>k a b h) h
noncomputable def onList (e:Expr) (f:List Expr->Pos->Bool):Bool:=if h:e.ctorIdx=24 then Expr.List.elim (motive_1:=fun _=>Bool) e h f else false
theorem onList_el {P:Expr->Prop} {e:Expr} {f:List Expr->Pos->Bool} (h:onList e f=true) (k:∀ a b,f a b=true->P (.List a b)):P e :=
 Expr.List.elim (motive_1:=fun e=>onList e f=true->P e) e (on_idx h) (fun a b h=>k a b h) h
noncomputable def onTuple (e:Expr) (f:List Expr->Nat->Pos->Bool):Bool:=if h:e.ctorIdx=25 then Expr.Tuple.elim (motive_1:=fun _=>Bool) e h f else false
theorem onTuple_el {P:Expr->Prop} {e:Expr} {f:List Expr->Nat->Pos->Bool} (h:onTuple e f=true) (k:∀ a b c,f a b c=true->P (.Tuple a b c)):P e :=
 Expr.Tuple.elim (motive_1:=fun e=>onTuple e f=true->P e) e (on_idx h) (fun a b c h=>k a b c h) h
noncomputable def stReturn (e:Stmt) (f:Option Expr->Pos->Bool):Bool:=if h:e.ctorIdx=3 then Stmt.Return.elim (motive_2:=fun _=>Bool) e h f else false
theorem stReturn_el {P:Stmt->Prop} {e:Stmt} {f:Option Expr->Pos->Bool} (h:stReturn e f=true) (k:∀ a b,f a b=true->P (.Return a b)):P e :=
 Stmt.Return.elim (motive_2:=fun e=>stReturn e f=true->P e) e (on_idx h) (fun a b h=>k a b h) h
noncomputable def stRaise (e:Stmt) (f:Option Expr->Option Expr->Pos->Bool):Bool:=if h:e.ctorIdx=16 then Stmt.Raise.elim (motive_2:=fun _=>Bool) e h f else false
theorem stRaise_el {P:Stmt->Prop} {e:Stmt} {f:Option Expr->Option Expr->Pos->Bool} (h:stRaise e f=true) (k:∀ a b c,f a b c=true->P (.Raise a b c)):P e :=
 Stmt.Raise.elim (motive_2:=fun e=>stRaise e f=true->P e) e (on_idx h) (fun a b c h=>k a b c h) h
noncomputable def stAssign (e:Stmt) (f:List Expr->Expr->Pos->Bool):Bool:=if h:e.ctorIdx=5 then Stmt.Assign.elim (motive_2:=fun _=>Bool) e h f else false
theorem stAssign_el {P:Stmt->Prop} {e:Stmt} {f:List Expr->Expr->Pos->Bool} (h:stAssign e f=true) (k:∀ a b c,f a b c=true->P (.Assign a b c)):P e :=
 Stmt.Assign.elim (motive_2:=fun e=>stAssign e f=true->P e) e (on_idx h) (fun a b c h=>k a b c h) h
noncomputable def stFor (e:Stmt) (f:Expr->Expr->List Stmt->List Stmt->Pos->Bool):Bool:=if h:e.ctorIdx=9 then Stmt.For.elim (motive_2:=fun _=>Bool) e h f else false
theorem stFor_el {P:Stmt->Prop} {e:Stmt} {f:Expr->Expr->List Stmt->List Stmt->Pos->Bool} (h:stFor e f=true) (k:∀ a b c d e,f a b c d e=true->P (.For a b c d e)):P e :=
 Stmt.For.elim (motive_2:=fun e=>stFor e f=true->P e) e (on_idx h) (fun a b c d e h=>k a b c d e h) h
noncomputable def stIf (e:Stmt) (f:Expr->List Stmt->List Stmt->Pos->Bool):Bool:=if h:e.ctorIdx=12 then Stmt.If.elim (motive_2:=fun _=>Bool) e h f else false
theorem stIf_el {P:Stmt->Prop} {e:Stmt} {f:Expr->List Stmt->List Stmt->Pos->Bool} (h:stIf e f=true) (k:∀ a b c d,f a b c d=true->P (.If a b c d)):P e :=
 Stmt.If.elim (motive_2:=fun e=>stIf e f=true->P e) e (on_idx h) (fun a b c d h=>k a b c d h) h
noncomputable def stExpr (e:Stmt) (f:Expr->Pos->Bool):Bool:=if h:e.ctorIdx=24 then Stmt.Expr.elim (motive_2:=fun _=>Bool) e h f else false
theorem stExpr_el {P:Stmt->Prop} {e:Stmt} {f:Expr->Pos->Bool} (h:stExpr e f=true) (k:∀ a b,f a b=true->P (.Expr a b)):P e :=
 Stmt.Expr.elim (motive_2:=fun e=>stExpr e f=true->P e) e (on_idx h) (fun a b h=>k a b h) h
noncomputable def stPass (e:Stmt) (f:Pos->Bool):Bool:=if h:e.ctorIdx=25 then Stmt.Pass.elim (motive_2:=fun _=>Bool) e h f else false
theorem stPass_el {P:Stmt->Prop} {e:Stmt} {f:Pos->Bool} (h:stPass e f=true) (k:∀ a,f a=true->P (.Pass a)):P e :=
 Stmt.Pass.elim (motive_2:=fun e=>stPass e f=true->P e) e (on_idx h) (fun a h=>k a h) h
noncomputable def stBreak (e:Stmt) (f:Pos->Bool):Bool:=if h:e.ctorIdx=26 then Stmt.Break.elim (motive_2:=fun _=>Bool) e h f else false
theorem stBreak_el {P:Stmt->Prop} {e:Stmt} {f:Pos->Bool} (h:stBreak e f=true) (k:∀ a,f a=true->P (.Break a)):P e :=
 Stmt.Break.elim (motive_2:=fun e=>stBreak e f=true->P e) e (on_idx h) (fun a h=>k a h) h
noncomputable def stContinue (e:Stmt) (f:Pos->Bool):Bool:=if h:e.ctorIdx=27 then Stmt.Continue.elim (motive_2:=fun _=>Bool) e h f else false
theorem stContinue_el {P:Stmt->Prop} {e:Stmt} {f:Pos->Bool} (h:stContinue e f=true) (k:∀ a,f a=true->P (.Continue a)):P e :=
 Stmt.Continue.elim (motive_2:=fun e=>stContinue e f=true->P e) e (on_idx h) (fun a h=>k a h) h
def isNoneC:Const->Bool
 | .none=>true
 | _=>false
def isNone (e:Expr):Bool:=onConstant e fun c _ _=>isNoneC c
def isTrueC:Const->Bool
 | .bool true=>true
 | _=>false
def isTrueE (e:Expr):Bool:=onConstant e fun c _ _=>isTrueC c
def isAnd:BoolOp->Bool
 | .And=>true
 | .Or=>false
def isUSub:UnaryOp->Bool
 | .USub=>true
 | _=>false
def isNot:UnaryOp->Bool
 | .Not=>true
 | _=>false
def noSlice (e:Expr):Bool:=!Nat.beq e.ctorIdx 26
noncomputable def plainTest (e:Expr):Bool:=[23,16,21,24,25,19,2].contains e.ctorIdx
def notCall0 (e:Expr):Bool:=!(onCall e fun f as ks _=>Nat.beq f.ctorIdx 23 && as.isEmpty && ks.isEmpty)
def notStar (e:Expr):Bool:=!Nat.beq e.ctorIdx 22
noncomputable def biName:Bi->Str
 | .len => "len" | .max2 => "max" | .min2 => "min" | .int1 => "int" | .list1 => "list" | .tuple1 => "tuple" | .repr1 => "repr" | .isi _ => "isinstance" | .all1 => "all" | .any1 => "any" | .dict1 => "dict" | .min1 => "min" | .max1 => "max" | .sort1 => "sorted"
noncomputable def meName:Me->Str
 | .append => "append" | .insert => "insert" | .reverse => "reverse" | .extend => "extend" | .remove => "remove" | .clear => "clear" | .pop => "pop"
noncomputable def bltNames:List Str:=["len","max","min","int","list","tuple","repr","isinstance","all","any","bool","str","dict","range","enumerate","zip","sorted","set"]
noncomputable def meOk:Me->Bool
 | .append=>true | .insert=>false | .reverse=>false | .extend=>false | .remove=>false | .clear=>false | .pop=>false
noncomputable def biOk:Bi->Bool
 | .all1=>false
 | .any1=>false
 | .min1=>false
 | .max1=>false
 | .min2=>false
 | .dict1=>false
 | .sort1=>false
 | .isi _=>false
 | _=>true
def isStr (k:Str):Const->Bool
 | .str s=>k == s
 | _=>false
def strKeys:List Str->List (Option Expr)->Bool
 | [],[]=>true
 | k::ks,some e::es=>(onConstant e fun c _ _=>isStr k c) && strKeys ks es
 | _,_=>false
noncomputable def blockN (sc:Scope):List Str:=(sc.names.filter fun y=>y.2 == .local || y.2 == .free || y.2 == .cell).map (·.1)
def capOf (cc:CC) (sc:Scope):List (Option Nat):=(blockN sc).map fun x=>if sc.names.lookup x == some .free then cc.N.findIdx? (· == x) else none
def blk (cc:CC) (sc:Scope):CC:=⟨blockN sc,sc.names,cc.fs,cc.gs,xNil⟩
def scOk (cc:CC) (sc:Scope):Bool:=sc.kind == .function && sc.names.all (fun y=>y.2 != .cell || sc.names.lookup y.1 == some .cell) && sc.names.all (fun y=>y.2 != .local || sc.names.lookup y.1 == some .local) && decide (blockN sc).Nodup &&
 sc.names.all (fun y=>y.2 != .free || (sc.names.lookup y.1 == some .free && (cc.names.lookup y.1 == some .cell || cc.names.lookup y.1 == some .free)))
def chkNames (cc:CC):List Nat->List Expr->Bool
 | [],[]=>true
 | i::tg,e::es=>(onName e fun x _=>cc.N[i]? == some x && (cc.names.lookup x == some .local || cc.names.lookup x == some .cell)) && chkNames cc tg es
 | _,_=>false
def chkTg (cc:CC) (tg:List Nat) (e:Expr):Bool:=match tg with
 | []=>false
 | [i]=>chkNames cc [i] [e]
 | i::j::r=>onTuple e fun es _ _=>chkNames cc (i::j::r) es && decide ((i::j::r).length < 20)
def isTuple (e:Expr):Bool:=Nat.beq e.ctorIdx 25
def notSet (e:Expr):Bool:=!Nat.beq e.ctorIdx 7
noncomputable def chkK:D->Const->Bool
 | .int i,.int j=>i == j
 | .bl i,.bool j=>i == j
 | .str i,.str j=>i == j
 | .non,.none=>true
 | _,_=>false
noncomputable def chkNeg:D->Const->Bool
 | .int i,.int j=>i == -j
 | _,_=>false
def chkCst (d:D) (e:Expr):Bool:=(onConstant e fun c _ _=>chkK d c) || onUnaryOp e fun op x _=>isUSub op && onConstant x fun c _ _=>chkNeg d c
def isiTy:Bi->Option Ty
 | .isi t=>some t
 | _=>none
theorem isiTy_some {b:Bi} {t:Ty} (h:isiTy b=some t):b=.isi t:=by
 cases b <;> first | (cases h;rfl) | cases h
def chkNm (cc:CC):List Str->List Expr->Bool
 | [],[]=>true
 | x::xs,e::es=>(onName e fun y _=>y == x && glob cc y && plainName y) && chkNm cc xs es
 | _,_=>false
def chkIX (cc:CC):IX->Expr->Bool
 | .one x,e=>onName e fun y _=>y == x && glob cc y && plainName y
 | .ve,e=>onName e fun y _=>y == "ValueError" && glob cc y
 | .many xs,e=>onTuple e fun es _ _=>chkNm cc xs es && decide (xs.length < 100)
mutual
noncomputable def chk (cc:CC):C->Expr->Bool
 | .var i,e=>onName e fun x _=>cc.N[i]? == some x && vis cc x && plainName x
 | .cst d,e=>chkCst d e
 | .bin op a b,e=>onBinOp e fun l o r _=>o == opOf op && chk cc a l && chk cc b r
 | .cmp op a b,e=>onCompare e fun l os rs _=>match os,rs with
  | [o],[r]=>o == cOf op && !behindInMarks o r && (if op=.isN\/op=.notN then isNone r else true) && chk cc a l && chk cc b r
  | _,_=>false
 | .chain o1 o2 a b c,e=>onCompare e fun l os rs _=>match os,rs with
  | [p,q],[m,r]=>p == cOf o1 && q == cOf o2 && !lastMarks [p,q] [m,r] && !(decide (o1=.isN) || decide (o1=.notN) || decide (o2=.isN) || decide (o2=.notN)) && chk cc a l && chk cc b m && chk cc c r
  | _,_=>false
 | .conj cs,e=>false
 | .disj cs,e=>false
 | .neg a,e=>onUnaryOp e fun op x _=>isNot op && chk cc a x
 | .ite t a b,e=>onIfExp e fun c x y _=>chkT cc t c && chk cc a x && chk cc b y
 | .tup cs,e=>onTuple e fun es _ _=>chks cc cs es
 | .lst cs,e=>onList e fun es _=>chks cc cs es
 | .sub a b,e=>onSubscript e fun e i _=>noSlice i && chk cc a e && chk cc b i
 | .call f cs,e=>onCall e fun fe args kws _=>onName fe fun x _=>match args,kws with
  | e::es,[]=>cc.fs[f]? == some (x,cs.length) && glob cc x && plainName x && chks cc cs (e::es)
  | _,_=>false
 | .xf a f,e=>onAttribute e fun e n _=>n == f && (onName e fun _ _=>true) && chk cc a e
 | .isx a k tb,e=>onCall e fun fe args kws _=>onName fe fun x _=>match args,kws with
  | [u,v],[]=>x == "isinstance" && glob cc x && notStar u && chk cc a u && chkIX cc k v && tb.all fun p=>cc.xs.kt.contains (k,p.1,p.2)
  | _,_=>false
 | .hcall f cs,e=>onCall e fun fe args kws _=>onName fe fun x _=>match args,kws with
  | e::es,[]=>cc.fs[f]? == some (x,cs.length) && cc.xs.hs.contains f && glob cc x && plainName x && chks cc cs (e::es)
  | _,_=>false
 | .bi b cs,e=>onCall e fun fe args kws _=>onName fe fun x _=>kws.isEmpty && x == biName b && glob cc x && match isiTy b,args with
  | some t,[e,f]=>(onName f fun y _=>y == Str.ofString (tyOf t) && glob cc y && decide (t≠.none)) && chks cc cs [e]
  | none,e::es=>biOk b && chks cc cs (e::es)
  | _,_=>false
 | .me m o cs,e=>onCall e fun fe es kws cp=>onAttribute fe fun e n ap=>kws.isEmpty && n == meName m && meOk m && ap.endLine == cp.line && notCall0 e && chk cc o e && chks cc cs es && decide (es.length < 20)
 | .dct ks cs,e=>onDict e fun keys vs _=>(strKeys ks keys && decide ks.Nodup && !keys.isEmpty && decide (keys.length<=15) && chks cc cs vs && decide (ks.length=cs.length)) || (ks.isEmpty && cs.isEmpty && keys.isEmpty && vs.isEmpty)
 | .rng tp cs,e=>false
 | .glo x v,e=>onName e fun y _=>y == x && glob cc x && plainName x && cc.gs.lookup x == some v
 | .isTr ng a,e=>onCompare e fun l os rs _=>match os,rs with
  | [o],[r]=>o == (if ng=true then CmpOp.IsNot else CmpOp.Is) && !behindInMarks o r && isTrueE r && chk cc a l
  | _,_=>false
 | .comp k src tg cond elt cap,e=>onListComp e fun el gens sc _=>match gens with
  | [⟨t,iter,ifs,as⟩]=>as == 0 && scOk cc sc && decide (cap=capOf cc sc) && chkSrc cc k src t iter && chkTg (blk cc sc) tg t && chkC (blk cc sc) cond ifs && chk (blk cc sc) elt el
  | _=>false
noncomputable def chkC (cc:CC):Option Tst->List Expr->Bool
 | none,[]=>true
 | some t,[e]=>chkT cc t e
 | _,_=>false
noncomputable def chkSrc (cc:CC):SK->List C->Expr->Expr->Bool
 | .seq,[c],_,e=>notSet e && chk cc c e
 | .rng1,[c],_,e=>onCall e fun fe args kws _=>onName fe fun x _=>match args,kws with
  | [a],[]=>x == "range" && glob cc x && notStar a && chk cc c a
  | _,_=>false
 | _,_,_,_=>false
noncomputable def chkT (cc:CC):Tst->Expr->Bool
 | .conj ts,e=>onBoolOp e fun op es _=>isAnd op && chkTs cc ts es && !es.isEmpty
 | .disj ts,e=>onBoolOp e fun op es _=>!isAnd op && chkTs cc ts es && !es.isEmpty
 | .neg a,e=>onUnaryOp e fun op x _=>isNot op && chkT cc a x
 | .val (.cmp op a b),e=>chk cc (.cmp op a b) e
 | .val (.chain o1 o2 a b c),e=>chk cc (.chain o1 o2 a b c) e
 | .val (.isTr ng a),e=>chk cc (.isTr ng a) e
 | .val c,e=>plainTest e && chk cc c e
noncomputable def chkTs (cc:CC):List Tst->List Expr->Bool
 | [],[]=>true
 | c::cs,e::es=>chkT cc c e && chkTs cc cs es
 | _,_=>false
noncomputable def chks (cc:CC):List C->List Expr->Bool
 | [],[]=>true
 | c::cs,e::es=>notStar e && chk cc c e && chks cc cs es
 | _,_=>false
noncomputable def chkO (cc:CC):Option C->Option Expr->Bool
 | none,none=>true
 | some c,some e=>chk cc c e
 | _,_=>false
end
end
noncomputable def KindOk (X:Cx) (x:Str):NameKind->Prop
 | .local=>X.env.kindOf x=some .local
 | .cell=>X.env.kindOf x=some .cell
 | .free=>X.env.kindOf x=some .cell\/X.env.kindOf x=some .free
 | .globalImplicit=>X.env.kindOf x=some .globalImplicit
 | _=>True
def spD (K:PySem.W.Frag) (n:Nat) (F:List D->Mem->Out W):Sp:=fun vs H Q E=>∃ ads M ds,MRel K ads H M/\RDs K ads H ds vs/\ds.length=n/\@OkW (exOf E) K ads H Q (F ds M)
noncomputable def KitIs (K:PySem.W.Frag) (mg:Str->Option Value) (k:IX) (C:Addr) (r:Bool):Prop:=match k with
 | .one x=>∃ c,mg x=some (.ref c)/\PySem.W.kitOne K (.ref C) (.ref c)=some r
 | .ve=>mg "ValueError" = none/\PySem.W.kitOne K (.ref C) (.type "ValueError")=some r
 | .many xs=>∃ cs:List Addr,xs.map mg=cs.map (fun c=>some (.ref c))/\PySem.W.kitAny K (.ref C) (cs.map Value.ref)=some r
noncomputable def CatIs (K:PySem.W.Frag) (mg:Str->Option Value) (cb:Str) (C:Addr) (fs:List Str):Prop:=∃ B D fI,mg cb=some (.ref B)/\PySem.W.kitCls K (.ref C) (.ref B)=some true/\PySem.W.kitCls K (.ref B) (.type "BaseException")=some true/\XIn K C D fI fs
structure GoodH (kk:Nat) (X:Cx) (cc:CC) (G:Fns):Prop where
 rh:RoomH kk X.A
 N:X.N=cc.N
 nd:cc.N.Nodup
 kinds:∀ x k,cc.names.lookup x=some k->KindOk X x k
 fnc:∀ x,cc.names.lookup x=some .cell->X.fn x=true
 blt:∀ b∈bltNames,X.mg b=none
 gls:∀ (x:Str) (v:Int),cc.gs.lookup x=some v->∃ t,X.mg x=some (.int v t)
 kit:∀ k C r,(k,C,r)∈cc.xs.kt->KitIs X.K X.mg k C r
 cat:∀ cb C fs,(cb,C,fs)∈cc.xs.ct->CatIs X.K X.mg cb C fs
 hfs:∀ (i:Nat) (x:Str) (n:Nat),cc.fs[i]?=some (x,n)->i∈cc.xs.hs->∃ f fd ps,FnOkH X.prog X.w X.K X.mg X.base CX0 kk f fd ps (spD X.K n (G i))/\X.mg x=some (.ref f)/\PySem.W.keepIn X.K (.ref f)=true/\Binds X.K fd ps []
section
variable [EX]
structure Good (kk:Nat) (X:Cx) (cc:CC) (G:Fns):Prop extends GoodH kk X cc G where
 calm:X.calm=true
 room:Room kk X.A
 fns:∀ (i:Nat) (x:Str) (n:Nat),cc.fs[i]?=some (x,n)->∃ f fd ps,FnOk X.prog X.w X.K X.mg X.base (CXe X.prog X.w) kk f fd ps (spD X.K n (G i))/\X.mg x=some (.ref f)/\PySem.W.keepIn X.K (.ref f)=true/\Binds X.K fd ps []
 ex:∃ E:XK,Passes (CXe X.prog X.w) X E/\∀ {K:PySem.W.Frag} {ads:List Addr} {H:Hp} {x:Exn} {M:Mem},EX.post K ads H x M->(exOf E).post K ads H x M
section
variable {kk:Nat} {X:Cx} {cc:CC} {G:Fns}
theorem GoodH.vis (g:GoodH kk X cc G) {x:Str} (h:vis cc x=true):Vis X.env.scope x:=by
 unfold Ev.vis at h
 split at h
 ·rename_i q;exact .inl (g.kinds x _ q)
 ·rename_i q;exact .inr (.inl (g.kinds x _ q))
 ·rename_i q
  rcases g.kinds x _ q with z | z
  ·exact .inr (.inl z)
  ·exact .inr (.inr z)
 ·cases h
theorem GoodH.gl (g:GoodH kk X cc G) {x:Str} (h:glob cc x=true):Gl X x:=by
 unfold glob at h
 split at h
 ·rename_i q;exact g.kinds x _ q
 ·cases h
theorem plain_dbg {x:Str} (h:plainName x=true):(x == ("__debug__" : Str))=false/\(x == ("__classdict__" : Str))=false/\x≠("__name__" : Str):=by
 unfold plainName at h
 simp only [zqab,zqa0] at h
 exact ⟨h.1.1,h.1.2,fun z=>by rw [z] at h;simp at h⟩
theorem peI {e:Expr} {t u:TE} (h:PE X e t) (f:∀ σ H Q,u σ H Q->t σ H Q):PE X e u:=fun pins s σ H Q I q=>h pins s σ H Q I (f σ H Q q)
theorem ptI {e:Expr} {t u:TT} (h:PT X e t) (f:∀ σ H Q,u σ H Q->t σ H Q):PT X e u:=fun pins s σ H Q I q=>h pins s σ H Q I (f σ H Q q)
theorem pwI {e:Expr} {t u:TT} (h:PW X e t) (f:∀ σ H Q,u σ H Q->t σ H Q):PW X e u:=fun wh pins s σ H Q I q=>h wh pins s σ H Q I (f σ H Q q)
theorem paI {e:List Expr} {t u:TA} (h:PA X e t) (f:∀ σ H Q,u σ H Q->t σ H Q):PA X e u:=fun p pins s σ H Q I q=>h p pins s σ H Q I (f σ H Q q)
theorem star_of {e:Expr} (h:notStar e=true) (es:List Expr) (env:Env):starEach (e::es) env=(false,eval e env)::starEach es env:=by
 cases e <;> first | rfl | exact absurd (show false=true from h) zqaa
theorem s_var {i:Nat} {e:Expr} (g:GoodH kk X cc G) (h:chk cc (.var i) e=true):PE X e (tE X.K (ev G (.var i))):=by
 refine onName_el (P:=fun e=>PE X e _) h fun x pos h=>?_
 have h:(cc.N[i]? == some x && vis cc x && plainName x)=true:=h
 simp only [zqab,zqa8] at h
 obtain ⟨⟨h1,h2⟩,h3⟩:=h
 obtain ⟨d1,d2,_⟩:=plain_dbg h3
 refine peI (pe_var (i:=i) (by rw [g.N];exact h1) (g.vis h2) d1 d2) fun σ H Q q=>?_
 obtain ⟨ads,M,ρ,s,q⟩:=q
 simp only [ev_var] at q
 split at q
 ·rename_i d e
  obtain ⟨v,ev',r⟩:=s.en i d e
  exact ⟨v,ev',q.plain s.mem r⟩
 ·exact q.elim
theorem tC_of {d:D} {v:V} (hd:∀ ads H,RD X.K ads H d v) (σ:L2.St) (H:Hp) (Q:VK) (h:tE X.K (ev G (.cst d)) σ H Q):tC v σ H Q:=by
 obtain ⟨ads,M,ρ,s,q⟩:=h
 exact OkW.plain q s.mem (hd _ _)
theorem s_cst {d:D} {e:Expr} (h:chk cc (.cst d) e=true):PE X e (tE X.K (ev G (.cst d))):=by
 replace h:chkCst d e=true:=h
 rcases (zqc2 _ _).mp h with h | h
 case inr =>
  refine onUnaryOp_el (P:=fun e=>PE X e _) h fun op x pos h=>?_
  replace h:=(zqab _ _).mp h
  have h0:=h.1
  replace h:=h.2
  cases op <;> first | exact absurd (show false=true from h0) zqaa | skip
  refine onConstant_el (P:=fun x=>PE X (.UnaryOp .USub x pos) _) h fun c j p h=>?_
  clear h0
  rcases d with _|_ | i | _|_|_|_ <;> first | exact absurd (show false=true from h) zqaa | skip
  rcases c with _|_ | k | _|_|_|_|_ <;> first | exact absurd (show false=true from h) zqaa | skip
  have h:i=-k:=eq_of_beq h
  subst h
  exact peI (pe_un un_neg pe_int) fun σ H Q q=>⟨k,rfl,tC_of (fun _ _=>rd_int _) σ H Q q⟩
 refine onConstant_el (P:=fun e=>PE X e _) h fun c j pos h=>?_
 cases d with
 | int i =>
  cases c <;> first | exact absurd (show false=true from h) zqaa | skip
  have h:=eq_of_beq (show (i == _)=true from h)
  subst h
  exact peI pe_int (tC_of fun _ _=>rd_int _)
 | bl i =>
  cases c <;> first | exact absurd (show false=true from h) zqaa | skip
  have h:=eq_of_beq (show (i == _)=true from h)
  subst h
  exact peI pe_bl (tC_of fun _ _=>rd_bl _)
 | str i =>
  cases c <;> first | exact absurd (show false=true from h) zqaa | skip
  have h:=eq_of_beq (show (i == _)=true from h)
  subst h
  exact peI pe_str (tC_of fun _ _=>rd_str _)
 | non =>
  cases c <;> first | exact absurd (show false=true from h) zqaa | skip
  exact peI pe_non (tC_of fun _ _=>rd_non)
 | tup _=>cases h
 | adr _=>cases h
 | ls _=>cases h
theorem s_bin {op:BOp} {a b:C} {e:Expr} (iha:∀ e,chk cc a e=true->PE X e (tE X.K (ev G a))) (ihb:∀ e,chk cc b e=true->PE X e (tE X.K (ev G b))) (h:chk cc (.bin op a b) e=true):PE X e (tE X.K (ev G (.bin op a b))):=by
 refine onBinOp_el (P:=fun e=>PE X e _) h fun l o r pos h=>?_
 have h:(o == opOf op && chk cc a l && chk cc b r)=true:=h
 simp only [zqab,zqa8] at h
 obtain ⟨⟨rfl,h1⟩,h2⟩:=h
 refine peI (pe_op (op_bin op) (iha l h1) (ihb r h2)) fun σ H Q q=>?_
 exact two (fun m r1 r2 h=>⟨_,_,_,_,m,r1,r2,h⟩) q
theorem okC_of {K:PySem.W.Frag} {ads:List Addr} {H:Hp} {Q:VK} {o:Out Bool} (h:OkW K ads H Q (o.bind fun r M=>.ok (.d (.bl r)) M)):OkC K ads H Q o:=by
 cases o with
 | ok b M=>exact fun H' ads' g m=>h (.bl b) H' ads' g m (show RD K ads' H' (.bl b) _ from rd_bl _)
 | err _ _=>exact h
 | stuck=>exact h
theorem isNone_v {b:C} {e:Expr} (hn:isNone e=true) (hb:chk cc b e=true):b=.cst .non:=by
 revert hb
 refine onConstant_el (P:=fun e=>chk cc b e=true->b=.cst .non) hn fun c j pos hn hb=>?_
 cases c <;> first | cases hn | skip
 cases b <;> first | exact absurd (show false=true from hb) zqaa | skip
 rename_i d
 cases d <;> first | rfl | exact absurd (show false=true from hb) zqaa
theorem s_cmp {op:COp} {a b:C} {e:Expr} (g:GoodH kk X cc G) (iha:∀ e,chk cc a e=true->PE X e (tE X.K (ev G a))) (ihb:∀ e,chk cc b e=true->PE X e (tE X.K (ev G b))) (h:chk cc (.cmp op a b) e=true):PE X e (tE X.K (ev G (.cmp op a b)))/\PT X e (tTest (tE X.K (ev G (.cmp op a b)))):=by
 refine onCompare_el (P:=fun e=>PE X e (tE X.K (ev G (.cmp op a b)))/\PT X e (tTest (tE X.K (ev G (.cmp op a b))))) h fun l ops rs pos h=>?_
 rcases ops with _|⟨o,_|⟨o2,ops⟩⟩ <;> rcases rs with _|⟨r,_|⟨r2,rs⟩⟩ <;> first | exact absurd (show false=true from h) zqaa | skip
 have h:(o == cOf op && !behindInMarks o r && (if op=.isN\/op=.notN then isNone r else true) && chk cc a l && chk cc b r)=true:=h
 simp only [zqab,zqa8,zqa0] at h
 obtain ⟨⟨⟨⟨rfl,hm⟩,hn⟩,h1⟩,h2⟩:=h
 have hun:=g.rh.un
 have key:∀ σ H Q,tE X.K (ev G (.cmp op a b)) σ H Q->tOp (rCmp X.K op) (tE X.K (ev G a)) (tE X.K (ev G b)) σ H Q:=by
  intro σ H Q q
  by_cases hop:op=.isN\/op=.notN
  ·rw [zqav hop] at hn
   have eb:=isNone_v hn h2
   subst eb
   obtain ⟨ads,M,ρ,s,q⟩:=q
   refine tE_bind s q fun w M1 v H1 ads1 s1 rw1 q1=>⟨ads1,M1,ρ,s1,?_⟩
   intro vy H2 ads2 g2 m2 ry
   have ey:=rw_non ry
   refine ⟨ads2,M1,w,.d .non,m2,g2.rw rw1,(show RD X.K ads2 H2 .non vy by rw [ey];exact rd_non),fun _=>ey,?_⟩
   have q1:OkW X.K ads1 H1 Q ((cmpW op w (.d .non) M1).bind fun r M=>.ok (.d (.bl r)) M):=q1
   exact okC_of (q1.shift g2 s1.mem m2)
  ·exact two (fun m r1 r2 h=>⟨_,_,_,_,m,r1,r2,fun z=>absurd z hop,okC_of h⟩) q
 exact ⟨peI (pe_cmpR (op_cmp (∅) op) (iha l h1) (ihb r h2) hm) key,ptI (pt_cmpR (op_cmp (∅) op) (iha l h1) (ihb r h2) hm) fun σ H Q q=>key σ H _ q⟩
theorem s_neg {a:C} {e:Expr} (iha:∀ e,chk cc a e=true->PE X e (tE X.K (ev G a))) (h:chk cc (.neg a) e=true):PE X e (tE X.K (ev G (.neg a))):=by
 refine onUnaryOp_el (P:=fun e=>PE X e _) h fun op x pos h=>?_
 obtain ⟨h0,h⟩:=(zqab _ _).mp h
 cases op <;> first | exact absurd (show false=true from h0) zqaa | skip
 refine peI (pe_not (iha x h)) fun σ H Q q=>?_
 obtain ⟨ads,M,ρ,s,q⟩:=q
 refine tE_bind s q fun w M1 v H1 ads1 s1 rw1 q1=>?_
 rcases w with ⟨_ | b | _|_|_|_⟩|_ <;> first | exact q1.elim | skip
 exact ⟨b,rw_bl rw1,OkW.plain q1 s1.mem (rd_bl _)⟩
theorem s_tup {cs:List C} {e:Expr} (ih:∀ es,chks cc cs es=true->PA X es (tDs X.K (evDs G cs))) (h:chk cc (.tup cs) e=true):PE X e (tE X.K (ev G (.tup cs))):=by
 refine onTuple_el (P:=fun e=>PE X e _) h fun es k pos h=>?_
 refine peI (pe_tup (ih es h)) fun σ H Q q=>?_
 obtain ⟨ads,M,ρ,s,q⟩:=q
 refine ⟨ads,M,ρ,s,?_⟩
 simp only [ev_tup] at q
 cases hq:evDs G cs ρ M with
 | ok ds M1 =>
  rw [hq] at q
  have q:OkW X.K ads H Q (if ds.length<=sizeLine then .ok (.d (.tup ds)) M1 else .stuck):=q
  intro vs H1 ads1 g1 m1 r1
  split at q
  ·rename_i hz
   exact ⟨by rw [<- r1.len];exact hz,fun p hp=>(q.shift g1 s.mem m1).tuple m1 r1 hp⟩
  ·exact q.elim
 | err _ _=>rw [hq] at q;exact q
 | stuck=>rw [hq] at q;exact q
theorem s_lst {cs:List C} {e:Expr} (ih:∀ es,chks cc cs es=true->PA X es (tDs X.K (evDs G cs))) (h:chk cc (.lst cs) e=true):PE X e (tE X.K (ev G (.lst cs))):=by
 refine onList_el (P:=fun e=>PE X e _) h fun es pos h=>?_
 refine peI (pe_lst (ih es h)) fun σ H Q q=>?_
 obtain ⟨ads,M,ρ,s,q⟩:=q
 refine ⟨ads,M,ρ,s,?_⟩
 simp only [ev_lst] at q
 cases hq:evDs G cs ρ M with
 | ok ds M1 =>
  rw [hq] at q
  have q:OkW X.K ads H Q (if ds.length<=sizeLine then .ok (.lv ds) M1 else .stuck):=q
  intro vs H1 ads1 g1 m1 r1
  split at q
  ·rename_i hz
   exact ⟨by rw [<- r1.len];exact hz,fun p hp=>(q.shift g1 s.mem m1).list m1 r1 hp⟩
  ·exact q.elim
 | err _ _=>rw [hq] at q;exact q
 | stuck=>rw [hq] at q;exact q
theorem own_ok {K:PySem.W.Frag} {ads ads':List Addr} {H H':Hp} {w:W} {v:V} {M1:Mem} {d:D} {M2:Mem} (m:MRel K ads H M) (g:Grow ads ads' H H') (m1:MRel K ads' H' M1) (r:RWn K ads' H H' w v) (e:own w M1=.ok d M2):∃ ads2,Grow ads ads2 H H'/\MRel K ads2 H' M2/\RD K ads2 H' d v:=by
 cases w with
 | d x=>cases e;exact ⟨ads',g,m1,r⟩
 | lv ds =>
  cases e
  obtain ⟨a,xs,rfl,h0,h1,n,r⟩:=r
  refine ⟨ads'++[a],⟨?_,fun b hb nb=>?_,g.kept,g.tups,g.frz⟩,m1.push n ⟨xs,h1,r⟩,?_⟩
  ·obtain ⟨t,e⟩:=g.pre
   exact ⟨t++[a],by rw [e,zqb8]⟩
  ·rcases zqbx.mp hb with z | z
   ·exact g.new b z nb
   ·have:b=a:=by simpa using z
    subst this
    exact h0
  ·unfold RD
   exact ⟨a,rfl,by rw [zqaw (by rw [m1.len];exact zqae _)];simp [m1.len]⟩
theorem s_nil:PA X [] (tDs X.K (evDs G [])):=paI pa_nil fun σ H Q q=>by
 obtain ⟨ads,M,ρ,s,q⟩:=q
 exact q [] H ads (Grow.refl _ _) s.mem (by unfold RDs;rfl)
theorem s_cons {c:C} {cs:List C} {e:Expr} {es:List Expr} (hs:notStar e=true) (ha:PE X e (tE X.K (ev G c))) (hr:PA X es (tDs X.K (evDs G cs))):PA X (e::es) (tDs X.K (evDs G (c::cs))):=by
 refine paI (pa_cons ha hr (star_of hs es X.env)) fun σ H Q q=>?_
 obtain ⟨ads,M,ρ,s,q⟩:=q
 refine ⟨ads,M,ρ,s,?_⟩
 simp only [evDs_nil,evDs_cons] at q
 cases hq:ev G c ρ M with
 | ok w M1 =>
  rw [hq] at q
  intro v H1 ads1 g1 m1 r1
  cases ho:own w M1 with
  | ok d M2 =>
   have q:OkDs X.K ads H Q ((own w M1).bind fun d M=>(evDs G cs ρ M).bind fun ds M=>.ok (d::ds) M):=q
   rw [ho] at q
   obtain ⟨ads2,g2,m2,rd⟩:=own_ok s.mem g1 m1 r1 ho
   refine ⟨ads2,M2,ρ,s.grow g2 m2,?_⟩
   have q:OkDs X.K ads H Q ((evDs G cs ρ M2).bind fun ds M=>.ok (d::ds) M):=q
   cases hq3:evDs G cs ρ M2 with
   | ok ds M3 =>
    rw [hq3] at q
    intro vs H3 ads3 g3 m3 r3
    refine q (v::vs) H3 ads3 (g2.trans g3) m3 ?_
    unfold RDs
    exact ⟨v,vs,rfl,g3.rd _ _ rd,r3⟩
   | err _ _=>rw [hq3] at q;exact EX.shift (show EX.post X.K ads H _ _ from q) g2
   | stuck=>rw [hq3] at q;exact q
  | err _ _=>cases w <;> cases ho
  | stuck=>cases w <;> cases ho
 | err _ _=>rw [hq] at q;exact q
 | stuck=>rw [hq] at q;exact q
end
end
section
variable [EX]
section
variable {kk:Nat} {X:Cx} {cc:CC} {G:Fns}
theorem s_chain {o1 o2:COp} {a b c:C} {e:Expr} (g:GoodH kk X cc G) (iha:∀ e,chk cc a e=true->PE X e (tE X.K (ev G a))) (ihb:∀ e,chk cc b e=true->PE X e (tE X.K (ev G b))) (ihc:∀ e,chk cc c e=true->PE X e (tE X.K (ev G c))) (h:chk cc (.chain o1 o2 a b c) e=true):PE X e (tE X.K (ev G (.chain o1 o2 a b c)))/\PT X e (tTest (tE X.K (ev G (.chain o1 o2 a b c)))):=by
 refine onCompare_el (P:=fun e=>PE X e (tE X.K (ev G (.chain o1 o2 a b c)))/\PT X e (tTest (tE X.K (ev G (.chain o1 o2 a b c))))) h fun l ops rs pos h=>?_
 rcases ops with _|⟨p,_|⟨q,_|⟨_,ops⟩⟩⟩ <;> rcases rs with _|⟨m,_|⟨r,_|⟨_,rs⟩⟩⟩ <;> first | exact absurd (show false=true from h) zqaa | skip
 have h:(p == cOf o1 && q == cOf o2 && !lastMarks [p,q] [m,r] && !(decide (o1=.isN) || decide (o1=.notN) || decide (o2=.isN) || decide (o2=.notN)) && chk cc a l && chk cc b m && chk cc c r)=true:=h
 simp only [zqab,zqa8,zqa0,Bool.or_eq_false_iff,decide_eq_false_iff_not] at h
 obtain ⟨⟨⟨⟨⟨⟨rfl,rfl⟩,hm⟩,⟨⟨⟨n1,n2⟩,n3⟩,n4⟩⟩,h1⟩,h2⟩,h3⟩:=h
 have hun:=g.rh.un
 have key:∀ σ H Q,tE X.K (ev G (.chain o1 o2 a b c)) σ H Q->tChain (rCmp X.K o1) (rCmp X.K o2) (tE X.K (ev G a)) (tE X.K (ev G b)) (tE X.K (ev G c)) σ H Q:=by
  intro σ H Q q
  obtain ⟨ads,M,ρ,s,q⟩:=q
  refine tE_bind s q fun x M1 v H1 ads1 s1 rx q1=>?_
  refine ⟨ads1,M1,ρ,s1,?_⟩
  cases hq:ev G b ρ M1 with
  | ok y M2 =>
   rw [hq] at q1
   intro vy H2 ads2 g2 m2 ry
   have q2:OkW X.K ads1 H1 Q ((cmpW o1 x y M2).bind fun r M=>if r then (ev G c ρ M).bind fun z M=>(cmpW o2 y z M).bind fun r M=>.ok (.d (.bl r)) M else .ok (.d (.bl false)) M):=q1
   have s2:=s1.grow g2 m2
   refine ⟨ads2,M2,x,y,m2,g2.rw rx,ry.rw,fun z=>absurd z (by simp [n1,n2]),?_⟩
   cases hc:cmpW o1 x y M2 with
   | ok k M3 =>
    rw [hc] at q2
    intro H3 ads3 g3 m3
    have s3:=s2.grow g3 m3
    have ry3:=g3.rw ry.rw
    refine ⟨k,rfl,?_⟩
    have q3:OkW X.K ads3 H3 Q (if k then (ev G c ρ M3).bind fun z M=>(cmpW o2 y z M).bind fun r M=>.ok (.d (.bl r)) M else .ok (.d (.bl false)) M3):=OkW.shift q2 (g2.trans g3) s1.mem m3
    cases k with
    | false=>rw [zqax (by simp)] at q3 ⊢;exact OkW.plain q3 m3 (rd_bl _)
    | true =>
     rw [zqav rfl] at q3 ⊢
     refine ⟨ads3,M3,ρ,s3,?_⟩
     cases hz:ev G c ρ M3 with
     | ok z M4 =>
      rw [hz] at q3
      intro vz H4 ads4 g4 m4 rz
      exact ⟨ads4,M4,y,z,m4,g4.rw ry3,rz.rw,fun w=>absurd w (by simp [n3,n4]),okC_of (OkW.shift (o:=(cmpW o2 y z M4).bind fun r M=>.ok (.d (.bl r)) M) q3 g4 m3 m4)⟩
     | err _ _=>rw [hz] at q3;exact q3
     | stuck=>rw [hz] at q3;exact q3
   | err _ _=>rw [hc] at q2;exact EX.shift (show EX.post X.K ads1 H1 _ _ from q2) g2
   | stuck=>rw [hc] at q2;exact q2
  | err _ _=>rw [hq] at q1;exact q1
  | stuck=>rw [hq] at q1;exact q1
 exact ⟨peI (pe_chain (op_cmp (∅) o1) (op_cmp (∅) o2) (iha l h1) (ihb m h2) (ihc r h3) hm) key,ptI (pt_chain (op_cmp (∅) o1) (op_cmp (∅) o2) (iha l h1) (ihb m h2) (ihc r h3) hm) fun σ H Q q=>key σ H _ q⟩
theorem isTrueE_e {P:Expr->Prop} {e:Expr} (h:isTrueE e=true) (k:∀ j p,P (.Constant (.bool true) j p)):P e:=onConstant_el (P:=P) h fun c j p h=>by
 rcases c with _ | b | _|_|_|_|_|_ <;> first | exact absurd (show false=true from h) zqaa | skip
 cases b with
 | true=>exact k j p
 | false=>exact absurd (show false=true from h) zqaa
theorem isTr_key {ng:Bool} {a:C} {σ:L2.St} {H:Hp} {Q:VK} (q:tE X.K (ev G (.isTr ng a)) σ H Q):tOp (fun x y H Q=>∃ b c,x=.bl b/\y=.bl c/\Q (.bl (ng != (b == c))) H) (tE X.K (ev G a)) (tC (.bl true)) σ H Q:=by
 obtain ⟨ads,M,ρ,s,q⟩:=q
 refine tE_bind s q fun w M1 v H1 ads1 s1 rw1 q1=>?_
 rcases w with ⟨_ | b | _|_|_|_|_⟩|_ <;> first | exact q1.elim | skip
 refine ⟨b,true,rw_bl rw1,rfl,?_⟩
 rw [show (b == true)=b from by cases b <;> rfl]
 exact OkW.plain q1 s1.mem (rd_bl _)
theorem s_isTr {ng:Bool} {a:C} {e:Expr} (iha:∀ e,chk cc a e=true->PE X e (tE X.K (ev G a))) (h:chk cc (.isTr ng a) e=true):PE X e (tE X.K (ev G (.isTr ng a)))/\PT X e (tTest (tE X.K (ev G (.isTr ng a)))):=by
 refine onCompare_el (P:=fun e=>PE X e (tE X.K (ev G (.isTr ng a)))/\PT X e (tTest (tE X.K (ev G (.isTr ng a))))) h fun l ops rs pos h=>?_
 rcases ops with _|⟨o,_|⟨o2,ops⟩⟩ <;> rcases rs with _|⟨r,_|⟨r2,rs⟩⟩ <;> first | exact absurd (show false=true from h) zqaa | skip
 have h:(o == (if ng=true then CmpOp.IsNot else CmpOp.Is) && !behindInMarks o r && isTrueE r && chk cc a l)=true:=h
 simp only [zqab,zqa8,zqa0] at h
 obtain ⟨⟨⟨ho,hm⟩,hr⟩,h1⟩:=h
 have pc:PE X r (tC (.bl true)):=isTrueE_e (P:=fun r=>PE X r (tC (.bl true))) hr fun j p=>pe_bl
 cases ng with
 | true =>
  have ho:o=.IsNot:=ho
  subst ho
  have key:∀ σ H Q,tE X.K (ev G (.isTr true a)) σ H Q->tOp (fun x y H Q=>∃ b c,x=.bl b/\y=.bl c/\Q (.bl (!(b == c))) H) (tE X.K (ev G a)) (tC (.bl true)) σ H Q:=fun σ H Q q=>by
   have:=isTr_key q
   simp only [Bool.true_bne] at this
   exact this
  exact ⟨peI (pe_cmpR op_notB (iha l h1) pc hm) key,ptI (pt_cmpR op_notB (iha l h1) pc hm) fun σ H Q q=>key σ H _ q⟩
 | false =>
  have ho:o=.Is:=ho
  subst ho
  have key:∀ σ H Q,tE X.K (ev G (.isTr false a)) σ H Q->tOp (fun x y H Q=>∃ b c,x=.bl b/\y=.bl c/\Q (.bl (b == c)) H) (tE X.K (ev G a)) (tC (.bl true)) σ H Q:=fun σ H Q q=>by
   have:=isTr_key q
   simp only [Bool.false_bne] at this
   exact this
  exact ⟨peI (pe_cmpR op_isB (iha l h1) pc hm) key,ptI (pt_cmpR op_isB (iha l h1) pc hm) fun σ H Q q=>key σ H _ q⟩
theorem bl_isTr {ng:Bool} {a:C} (ρ:En) (M:Mem) (w:W) (M':Mem) (h:ev G (.isTr ng a) ρ M=.ok w M'):∃ k,w=.d (.bl k):=by
 simp only [ev_isTr] at h
 cases h1:ev G a ρ M with
 | ok x M1 =>
  rw [h1] at h
  rcases x with ⟨_ | b | _|_|_|_|_⟩|_ <;> first | cases h | skip
  exact ⟨_,rfl⟩
 | err _ _=>rw [h1] at h;cases h
 | stuck=>rw [h1] at h;cases h
theorem tT_bind {K:PySem.W.Frag} {ads:List Addr} {H:Hp} {M:Mem} {ρ:En} {σ:L2.St} {o:En->Mem->Out Bool} {k:Bool->Mem->Out Bool} {Q:Bool->Hp->Prop} {R:Bool->Hp->Prop} (s:SR K ads M ρ σ H) (h:OkB K ads H Q ((o ρ M).bind k)) (hk:∀ w M1 H1 ads1,SR K ads1 M1 ρ σ H1->OkB K ads1 H1 Q (k w M1)->R w H1):tTs K o σ H R:=by
 refine ⟨ads,M,ρ,s,?_⟩
 cases q:o ρ M with
 | ok w M1 =>
  rw [q] at h
  have h:OkB K ads H Q (k w M1):=h
  exact fun H1 ads1 g1 m1=>hk w M1 H1 ads1 (s.grow g1 m1) (h.shift g1)
 | err _ _=>rw [q] at h;exact h
 | stuck=>rw [q] at h;exact h
theorem t_val {c:C} {σ:L2.St} {H:Hp} {Q:Bool->Hp->Prop} (h:tTs X.K (evT G (.val c)) σ H Q):tE X.K (ev G c) σ H fun x H'=>∃ k,TruV X.K x H' k/\Q k H':=by
 obtain ⟨ads,M,ρ,s,q⟩:=h
 refine ⟨ads,M,ρ,s,?_⟩
 simp only [evT_val] at q
 cases hq:ev G c ρ M with
 | ok w M1 =>
  rw [hq] at q
  intro v H1 ads1 g1 m1 r1
  have q:OkB X.K ads H Q (match truW M1 w with | some r=>.ok r M1 | none=>.stuck):=q
  cases ht:truW M1 w with
  | none=>rw [ht] at q;exact q.elim
  | some k=>rw [ht] at q;exact ⟨k,tru_w m1 r1.rw ht,q H1 ads1 g1 m1⟩
 | err _ _=>rw [hq] at q;exact q
 | stuck=>rw [hq] at q;exact q
theorem test_of {e:Expr} (h:plainTest e=true) (env:Env):∀ whole,isTrue e env whole=(do let v <- whole;standAt e.pos;holding [v] (truthy v)):=by
 cases e <;> first | (intro _;rfl) | exact absurd (show false=true from h) zqaa
theorem t_plain {c:C} {e:Expr} (hp:plainTest e=true) (he:PE X e (tE X.K (ev G c))):PT X e (tTs X.K (evT G (.val c))) :=
 ptI (pt_truth he (test_of hp X.env)) fun σ H Q q=>t_val q
theorem t_test {c:C} {e:Expr} (hb:∀ ρ M w M',ev G c ρ M=.ok w M'->∃ k,w=.d (.bl k)) (he:PT X e (tTest (tE X.K (ev G c)))):PT X e (tTs X.K (evT G (.val c))):=by
 refine ptI he fun σ H Q q=>?_
 obtain ⟨ads,M,ρ,s,q⟩:=q
 refine ⟨ads,M,ρ,s,?_⟩
 simp only [evT_val] at q
 cases hq:ev G c ρ M with
 | ok w M1 =>
  rw [hq] at q
  obtain ⟨k,rfl⟩:=hb _ _ _ _ hq
  intro v H1 ads1 g1 m1 r1
  exact ⟨k,rw_bl r1,q H1 ads1 g1 m1⟩
 | err _ _=>rw [hq] at q;exact q
 | stuck=>rw [hq] at q;exact q
theorem bl_cmp {op:COp} {a b:C} (ρ:En) (M:Mem) (w:W) (M':Mem) (h:ev G (.cmp op a b) ρ M=.ok w M'):∃ k,w=.d (.bl k):=by
 simp only [ev_cmp] at h
 cases h1:ev G a ρ M with
 | ok x M1 =>
  rw [h1] at h
  simp only [Out.bind] at h
  cases h2:ev G b ρ M1 with
  | ok y M2 =>
   rw [h2] at h
   simp only at h
   cases h3:cmpW op x y M2 with
   | ok k M3=>rw [h3] at h;cases h;exact ⟨k,rfl⟩
   | err _ _=>rw [h3] at h;cases h
   | stuck=>rw [h3] at h;cases h
  | err _ _=>rw [h2] at h;cases h
  | stuck=>rw [h2] at h;cases h
 | err _ _=>rw [h1] at h;cases h
 | stuck=>rw [h1] at h;cases h
theorem bl_chain {o1 o2:COp} {a b c:C} (ρ:En) (M:Mem) (w:W) (M':Mem) (h:ev G (.chain o1 o2 a b c) ρ M=.ok w M'):∃ k,w=.d (.bl k):=by
 simp only [ev_chain] at h
 cases h1:ev G a ρ M with
 | ok x M1 =>
  rw [h1] at h
  simp only [Out.bind] at h
  cases h2:ev G b ρ M1 with
  | ok y M2 =>
   rw [h2] at h
   simp only at h
   cases h3:cmpW o1 x y M2 with
   | ok k M3 =>
    rw [h3] at h
    simp only at h
    cases k with
    | false=>cases h;exact ⟨_,rfl⟩
    | true =>
     simp only [zqcf] at h
     cases h4:ev G c ρ M3 with
     | ok z M4 =>
      rw [h4] at h
      simp only at h
      cases h5:cmpW o2 y z M4 with
      | ok k M5=>rw [h5] at h;cases h;exact ⟨k,rfl⟩
      | err _ _=>rw [h5] at h;cases h
      | stuck=>rw [h5] at h;cases h
     | err _ _=>rw [h4] at h;cases h
     | stuck=>rw [h4] at h;cases h
   | err _ _=>rw [h3] at h;cases h
   | stuck=>rw [h3] at h;cases h
  | err _ _=>rw [h2] at h;cases h
  | stuck=>rw [h2] at h;cases h
 | err _ _=>rw [h1] at h;cases h
 | stuck=>rw [h1] at h;cases h
theorem t_neg {t:Tst} {e:Expr} {pos:Pos} (ih:PT X e (tTs X.K (evT G t))):PT X (.UnaryOp .Not e pos) (tTs X.K (evT G (.neg t))):=by
 refine ptI (pt_not ih) fun σ H Q q=>?_
 obtain ⟨ads,M,ρ,s,q⟩:=q
 exact tT_bind s q fun w M1 H1 ads1 s1 q1=>q1 H1 ads1 (Grow.refl _ _) s1.mem
theorem t_all:∀ (ts:List Tst) (es:List Expr) (pos:Pos),(∀ t∈ts,∀ e,chkT cc t e=true->PT X e (tTs X.K (evT G t)))->chkTs cc ts es=true->es≠[]->PW X (.BoolOp .And es pos) (tTs X.K (evAll G ts))
 | [],[],_,_,_,h=>absurd rfl h
 | [],_::_,_,_,h,_=>by cases h
 | _::_,[],_,_,h,_=>by cases h
 | c::cs,e::es,pos,ih,h,_=>by
  have h':(chkT cc c e && chkTs cc cs es)=true:=h
  simp only [zqab] at h'
  have he:=ih c zqar e h'.1
  cases es with
  | nil =>
   cases cs with
   | cons _ _=>cases h'.2
   | nil =>
    refine pwI (pw_and1 he) fun σ H Q q=>?_
    obtain ⟨ads,M,ρ,s,q⟩:=q
    refine ⟨ads,M,ρ,s,?_⟩
    simp only [evAll_nil,evAll_cons] at q
    cases hq:evT G c ρ M with
    | ok w M1=>rw [hq] at q;exact q
    | err _ _=>rw [hq] at q;exact q
    | stuck=>rw [hq] at q;exact q
  | cons e2 es =>
   cases cs with
   | nil=>cases h'.2
   | cons c2 cs =>
    have hr:=t_all (c2::cs) (e2::es) pos (fun c hc=>ih c (zqai _ hc)) h'.2 (by simp)
    refine pwI (pw_and he hr) fun σ H Q q=>?_
    obtain ⟨ads,M,ρ,s,q⟩:=q
    have q:OkB X.K ads H Q ((evT G c ρ M).bind fun x M=>match c2::cs,x with
     | [],x=>.ok x M
     | _,true=>evAll G (c2::cs) ρ M
     | _,false=>.ok false M):=by unfold evAll at q;exact q
    refine tT_bind s q fun w M1 H1 ads1 s1 q1=>?_
    cases w with
    | false=>rw [zqax (by simp)];exact q1 H1 ads1 (Grow.refl _ _) s1.mem
    | true=>rw [zqav rfl];exact ⟨ads1,M1,ρ,s1,q1⟩
theorem t_any:∀ (ts:List Tst) (es:List Expr) (pos:Pos),(∀ t∈ts,∀ e,chkT cc t e=true->PT X e (tTs X.K (evT G t)))->chkTs cc ts es=true->es≠[]->PW X (.BoolOp .Or es pos) (tTs X.K (evAny G ts))
 | [],[],_,_,_,h=>absurd rfl h
 | [],_::_,_,_,h,_=>by cases h
 | _::_,[],_,_,h,_=>by cases h
 | c::cs,e::es,pos,ih,h,_=>by
  have h':(chkT cc c e && chkTs cc cs es)=true:=h
  simp only [zqab] at h'
  have he:=ih c zqar e h'.1
  cases es with
  | nil =>
   cases cs with
   | cons _ _=>cases h'.2
   | nil =>
    refine pwI (pw_or1 he) fun σ H Q q=>?_
    obtain ⟨ads,M,ρ,s,q⟩:=q
    refine ⟨ads,M,ρ,s,?_⟩
    simp only [evAny_nil,evAny_cons] at q
    cases hq:evT G c ρ M with
    | ok w M1=>rw [hq] at q;exact q
    | err _ _=>rw [hq] at q;exact q
    | stuck=>rw [hq] at q;exact q
  | cons e2 es =>
   cases cs with
   | nil=>cases h'.2
   | cons c2 cs =>
    have hr:=t_any (c2::cs) (e2::es) pos (fun c hc=>ih c (zqai _ hc)) h'.2 (by simp)
    refine pwI (pw_or he hr) fun σ H Q q=>?_
    obtain ⟨ads,M,ρ,s,q⟩:=q
    have q:OkB X.K ads H Q ((evT G c ρ M).bind fun x M=>match c2::cs,x with
     | [],x=>.ok x M
     | _,false=>evAny G (c2::cs) ρ M
     | _,true=>.ok true M):=by unfold evAny at q;exact q
    refine tT_bind s q fun w M1 H1 ads1 s1 q1=>?_
    cases w with
    | true=>rw [zqav rfl];exact q1 H1 ads1 (Grow.refl _ _) s1.mem
    | false=>rw [zqax (by simp)];exact ⟨ads1,M1,ρ,s1,q1⟩
theorem s_ite {t:Tst} {a b:C} {c x y:Expr} {pos:Pos} (ht:PT X c (tTs X.K (evT G t))) (ha:PE X x (tE X.K (ev G a))) (hb:PE X y (tE X.K (ev G b))):PE X (.IfExp c x y pos) (tE X.K (ev G (.ite t a b))):=by
 refine peI (pe_ifExp ht ha hb) fun σ H Q q=>?_
 obtain ⟨ads,M,ρ,s,q⟩:=q
 refine ⟨ads,M,ρ,s,?_⟩
 simp only [ev_ite] at q
 cases hq:evT G t ρ M with
 | ok w M1 =>
  rw [hq] at q
  intro H1 ads1 g1 m1
  have q:OkW X.K ads H Q (if w then ev G a ρ M1 else ev G b ρ M1):=q
  have q:=q.shift g1 s.mem m1
  cases w with
  | true=>rw [zqav rfl] at q ⊢;exact ⟨ads1,M1,ρ,s.grow g1 m1,q⟩
  | false=>rw [zqax (by simp)] at q ⊢;exact ⟨ads1,M1,ρ,s.grow g1 m1,q⟩
 | err _ _=>rw [hq] at q;exact q
 | stuck=>rw [hq] at q;exact q
end
end
section
variable [EX]
section
variable {kk:Nat} {X:Cx} {cc:CC} {G:Fns}
theorem plainIx_of {b:Expr} (h:noSlice b=true):PlainIx b:=by
 intro o i
 cases b <;> first | rfl | exact absurd (show false=true from h) zqaa
theorem s_sub {a b:C} {e i:Expr} {pos:Pos} (g:GoodH kk X cc G) (hs:noSlice i=true) (ha:PE X e (tE X.K (ev G a))) (hb:PE X i (tE X.K (ev G b))):PE X (.Subscript e i pos) (tE X.K (ev G (.sub a b))):=by
 have hun:=g.rh.un
 refine peI (pe_ix (ix_sub (∅)) ha hb (plainIx_of hs)) fun σ H Q q=>?_
 exact two (fun m r1 r2 h=>⟨_,_,_,_,m,r1,r2,h⟩) q
def OkO (K:PySem.W.Frag) (ads:List Addr) (H:Hp) (Q:Option Int->Hp->Prop):Out (Option Int)->Prop
 | .ok o M=>∀ H' ads',Grow ads ads' H H'->MRel K ads' H' M->Q o H'
 | .err x M=>EX.post K ads H x M
 | .stuck=>False
def tO (K:PySem.W.Frag) (o:En->Mem->Out (Option Int)):TO:=fun σ H Q=>∃ ads M ρ,SR K ads M ρ σ H/\OkO K ads H Q (o ρ M)
theorem s_optN:PO X none (tO X.K (evO G none)):=fun pins s σ H Q I q=>po_none pins s σ H Q I (by
 obtain ⟨ads,M,ρ,s,q⟩:=q
 exact q H ads (Grow.refl _ _) s.mem)
theorem s_optS {c:C} {e:Expr} (h:PE X e (tE X.K (ev G c))):PO X (some e) (tO X.K (evO G (some c))):=fun pins s σ H Q I q=>po_some h pins s σ H Q I (by
 obtain ⟨ads,M,ρ,s,q⟩:=q
 refine ⟨ads,M,ρ,s,?_⟩
 simp only [evO_none,evO_some] at q
 cases hq:ev G c ρ M with
 | ok w M1 =>
  rw [hq] at q
  intro v H1 ads1 g1 m1 r1
  rcases w with ⟨_|_ | i | _|_|_⟩|_ <;> first | exact q.elim | skip
  exact ⟨i,rw_int r1,q H1 ads1 g1 m1⟩
 | err _ _=>rw [hq] at q;exact q
 | stuck=>rw [hq] at q;exact q)
theorem evDs_len:∀ (cs:List C) (ρ:En) (M:Mem) (ds:List D) (M':Mem),evDs G cs ρ M=.ok ds M'->ds.length=cs.length
 | [],ρ,M,ds,M',h=>by cases h;rfl
 | c::cs,ρ,M,ds,M',h=>by
  simp only [evDs_nil,evDs_cons] at h
  cases h1:(ev G c ρ M).bind own with
  | ok d M1 =>
   rw [h1] at h
   simp only [Out.bind] at h
   cases h2:evDs G cs ρ M1 with
   | ok es M2=>rw [h2] at h;cases h;simp [evDs_len cs ρ M1 es _ h2]
   | err _ _=>rw [h2] at h;cases h
   | stuck=>rw [h2] at h;cases h
  | err _ _=>rw [h1] at h;cases h
  | stuck=>rw [h1] at h;cases h
theorem noStar_any {cs:List C} {es:List Expr} (h:chks cc cs es=true) (env:Env) (pos:Pos):(backTo pos (starEach es env)).any (·.1)=false:=by
 have:∀ (cs:List C) (es:List Expr),chks cc cs es=true->(starEach es env).any (·.1)=false:=by
  intro cs
  induction cs with
  | nil=>intro es h;cases es with
   | nil=>rfl
   | cons _ _=>cases h
  | cons c cs ih =>
   intro es h
   cases es with
   | nil=>cases h
   | cons e es =>
    have h':(notStar e && chk cc c e && chks cc cs es)=true:=h
    simp only [zqab] at h'
    rw [star_of h'.1.1,zqcs,ih es h'.2]
    rfl
 have e:=this cs es h
 unfold backTo
 simp only [List.any_map]
 exact e
theorem s_call {f:Nat} {cs:List C} {x:Str} {e:Expr} {es:List Expr} {p pos:Pos} (g:Good kk X cc G) (hf:cc.fs[f]?=some (x,cs.length)) (hg:glob cc x=true) (hp:plainName x=true) (hc:chks cc cs (e::es)=true) (ha:PA X (e::es) (tDs X.K (evDs G cs))):PE X (.Call (.Name x p) (e::es) [] pos) (tE X.K (ev G (.call f cs))):=by
 obtain ⟨fa,fd,ps,F,hm,hk,hb⟩:=g.fns f x _ hf
 obtain ⟨E,hE,im⟩:=g.ex
 have hst:notStar e=true/\chks cc cs.tail es=true:=by
  cases cs with
  | nil=>cases hc
  | cons c cs =>
   have h':(notStar e && chk cc c e && chks cc cs es)=true:=hc
   simp only [zqab] at h'
   exact ⟨h'.1.1,h'.2⟩
 refine peI (pe_call (pos:=pos) (p:=p) (E:=E) F g.room (g.gl hg) hm hk hb .nil hE ha (plain_dbg hp).1 (star_of hst.1 es X.env) (noStar_any hst.2 X.env pos)) fun σ H Q q=>?_
 obtain ⟨ads,M,ρ,s,q⟩:=q
 refine ⟨ads,M,ρ,s,?_⟩
 simp only [ev_call] at q
 cases hq:evDs G cs ρ M with
 | ok ds M1 =>
  rw [hq] at q
  intro vs H1 ads1 g1 m1 r1
  refine ⟨ads1,M1,ds,m1,?_,evDs_len cs ρ M ds M1 hq,OkW.imp im (OkW.shift (o:=G f ds M1) q g1 s.mem m1)⟩
  rw [zqbs]
  exact r1
 | err _ _=>rw [hq] at q;exact q
 | stuck=>rw [hq] at q;exact q
def OkWs (K:PySem.W.Frag) (ads:List Addr) (H:Hp) (Q:List V->Hp->Prop):Out (List W)->Prop
 | .ok ws M=>∀ vs H' ads',Grow ads ads' H H'->MRel K ads' H' M->RWs K ads' H' ws vs->Q vs H'
 | .err x M=>EX.post K ads H x M
 | .stuck=>False
def tWs (K:PySem.W.Frag) (o:En->Mem->Out (List W)):TA:=fun σ H Q=>∃ ads M ρ,SR K ads M ρ σ H/\OkWs K ads H Q (o ρ M)
theorem w_nil:PA X [] (tWs X.K (evWs G [])):=paI pa_nil fun σ H Q q=>by
 obtain ⟨ads,M,ρ,s,q⟩:=q
 exact q [] H ads (Grow.refl _ _) s.mem rfl
theorem w_cons {c:C} {cs:List C} {e:Expr} {es:List Expr} (hs:notStar e=true) (ha:PE X e (tE X.K (ev G c))) (hr:PA X es (tWs X.K (evWs G cs))):PA X (e::es) (tWs X.K (evWs G (c::cs))):=by
 refine paI (pa_cons ha hr (star_of hs es X.env)) fun σ H Q q=>?_
 obtain ⟨ads,M,ρ,s,q⟩:=q
 refine ⟨ads,M,ρ,s,?_⟩
 simp only [evWs_nil,evWs_cons] at q
 cases hq:ev G c ρ M with
 | ok w M1 =>
  rw [hq] at q
  intro v H1 ads1 g1 m1 r1
  refine ⟨ads1,M1,ρ,s.grow g1 m1,?_⟩
  have q:OkWs X.K ads H Q ((evWs G cs ρ M1).bind fun ds M=>.ok (w::ds) M):=q
  cases hq3:evWs G cs ρ M1 with
  | ok ds M3 =>
   rw [hq3] at q
   intro vs H3 ads3 g3 m3 r3
   exact q (v::vs) H3 ads3 (g1.trans g3) m3 ⟨v,vs,rfl,g3.rw r1.rw,r3⟩
  | err _ _=>rw [hq3] at q;exact EX.shift (show EX.post X.K ads H _ _ from q) g1
  | stuck=>rw [hq3] at q;exact q
 | err _ _=>rw [hq] at q;exact q
 | stuck=>rw [hq] at q;exact q
theorem bi_key {b:Bi} {cs:List C} {σ:L2.St} {H:Hp} {Q:VK} (q:tE X.K (ev G (.bi b cs)) σ H Q):tCB (rBi X.K b) (tWs X.K (evWs G cs)) σ H Q:=by
 obtain ⟨ads,M,ρ,s,q⟩:=q
 refine ⟨ads,M,ρ,s,?_⟩
 simp only [ev_bi] at q
 cases hq:evWs G cs ρ M with
 | ok ws M1 =>
  rw [hq] at q
  intro vs H1 ads1 g1 m1 r1
  exact ⟨ads1,M1,ws,m1,r1,OkW.shift (o:=biW b ws M1) q g1 s.mem m1⟩
 | err _ _=>rw [hq] at q;exact q
 | stuck=>rw [hq] at q;exact q
theorem s_bi {b:Bi} {cs:List C} {x:Str} {e:Expr} {es:List Expr} {p pos:Pos} (g:Good kk X cc G) (hb:biOk b=true) (hx:x=biName b) (hg:glob cc x=true) (hs:notStar e=true) (hc:chks cc cs.tail es=true) (ha:PA X (e::es) (tWs X.K (evWs G cs))):PE X (.Call (.Name x p) (e::es) [] pos) (tE X.K (ev G (.bi b cs))):=by
 have hgl:=g.gl hg
 have hst:=star_of hs es X.env
 have hpl:=noStar_any hc X.env pos
 have hm:X.mg x=none:=g.blt x (by subst hx;cases b <;> first | (show _∈bltNames;decide +kernel) | (cases hb))
 subst hx
 cases b with
 | len=>exact peI (pe_callB bi_len hgl hm boot_len ha (⋯) (⋯) hst hpl) fun σ H Q q=>bi_key q
 | max2=>exact peI (pe_callB (bi_max g.calm) hgl hm boot_max ha (⋯) (⋯) hst hpl) fun σ H Q q=>bi_key q
 | min2=>cases hb
 | repr1=>exact peI (pe_callB (bi_repr g.room) hgl hm boot_repr ha (⋯) (⋯) hst hpl) fun σ H Q q=>bi_key q
 | int1=>exact peI (pe_callTy bi_int hgl hm (⋯) ha (⋯) (⋯) hst hpl) fun σ H Q q=>bi_key q
 | list1=>exact peI (pe_callTy bi_list hgl hm (⋯) ha (⋯) (⋯) hst hpl) fun σ H Q q=>bi_key q
 | tuple1=>exact peI (pe_callTy bi_tuple hgl hm (⋯) ha (⋯) (⋯) hst hpl) fun σ H Q q=>bi_key q
 | dict1=>cases hb
 | all1=>cases hb
 | any1=>cases hb
 | isi t=>cases hb
 | sort1=>cases hb
 | min1=>cases hb
 | max1=>cases hb
theorem w_ty {y:Str} {T:String} {pos:Pos} (hg:Gl X y) (hm:X.mg y=none) (hv:bootBuiltins y=some (.type T)) (hn:y ≠ "__name__") (hd:(y == ("__debug__" : Str))=false):PE X (.Name y pos) (tC (.ty T)) :=
 pe_bltn hg hm hv rfl hn hd
theorem s_isi {t:Ty} {c:C} {x y:Str} {e:Expr} {p py pos:Pos} (g:GoodH kk X cc G) (hx:x = "isinstance") (hgx:glob cc x=true) (hy:y=Str.ofString (tyOf t)) (hgy:glob cc y=true) (ht:t≠.none) (hs:notStar e=true) (ha:PE X e (tE X.K (ev G c))):PE X (.Call (.Name x p) [e,.Name y py] [] pos) (tE X.K (ev G (.bi (.isi t) [c]))):=by
 have hmx:X.mg x=none:=g.blt x (by subst hx;show _∈bltNames;decide +kernel)
 have hmy:X.mg y=none:=g.blt y (by subst hy;cases t <;> first | exact absurd rfl ht | (show _∈bltNames;decide +kernel))
 have pty:PE X (.Name y py) (tC (.ty (tyOf t))):=by
  subst hy
  cases t <;> first | exact absurd rfl ht | exact w_ty (g.gl hgy) hmy (⋯) (⋯) (⋯)
 have hgl:=g.gl hgx
 subst hx
 refine peI (pe_callB (bi_isi t) hgl hmx boot_isinstance (pa_cons ha (pa_cons pty pa_nil) (star_of hs _ X.env)) (⋯) (⋯) (star_of hs _ X.env) rfl) fun σ H Q q=>?_
 obtain ⟨ads,M,ρ,s,q⟩:=q
 refine ⟨ads,M,ρ,s,?_⟩
 simp only [ev_bi,evWs_nil,evWs_cons] at q
 cases hq:ev G c ρ M with
 | ok w M1 =>
  rw [hq] at q
  intro v H1 ads1 g1 m1 r1
  exact ⟨v,rfl,ads1,M1,[w],m1,⟨v,[],rfl,r1.rw,rfl⟩,OkW.shift (o:=biW (.isi t) [w] M1) q g1 s.mem m1⟩
 | err _ _=>rw [hq] at q;exact q
 | stuck=>rw [hq] at q;exact q
theorem base_of {e:Expr} (h:notCall0 e=true) (n:Str) (env:Env) (wh:Sem Value):attributeBase e n env wh=wh:=by
 cases e <;> first | rfl | skip
 rename_i f args kws pos
 cases f <;> first | rfl | skip
 cases args <;> first | rfl | skip
 cases kws <;> first | rfl | exact absurd (show false=true from h) zqaa
theorem me_key {m:Me} {o:C} {cs:List C} {σ:L2.St} {H:Hp} {Q:VK} (q:tE X.K (ev G (.me m o cs)) σ H Q):tBM X.K "list" (rMe X.K m) (tE X.K (ev G o)) (tDs X.K (evDs G cs)) σ H Q:=by
 obtain ⟨ads,M,ρ,s,q⟩:=q
 have q:OkW X.K ads H Q ((ev G o ρ M).bind fun x M=>if (lstW M x).isSome then (evDs G cs ρ M).bind fun ds M=>meW m x ds M else .stuck):=by simp only [ev_me] at q;exact q
 refine tE_bind s q fun w M1 v H1 ads1 s1 rw1 q1=>?_
 split at q1
 ·rename_i hs
  obtain ⟨es,he⟩:=zqbt.mp hs
  obtain ⟨a,xs,rfl,rd,ha⟩:=lst_ok s1.mem rw1 he
  refine ⟨.inl ⟨rfl,xs,SqL.of ha⟩,ads1,M1,ρ,s1,?_⟩
  cases hq:evDs G cs ρ M1 with
  | ok ds M2 =>
   rw [hq] at q1
   intro vs H2 ads2 g2 m2 r2
   exact ⟨ads2,M2,w,ds,m2,g2.rw rw1,r2,OkW.shift (o:=meW m w ds M2) q1 g2 s1.mem m2⟩
  | err _ _=>rw [hq] at q1;exact q1
  | stuck=>rw [hq] at q1;exact q1
 ·exact q1.elim
theorem me_key0 {m:Me} {o:C} {σ:L2.St} {H:Hp} {Q:VK} (q:tE X.K (ev G (.me m o [])) σ H Q):tBM0 X.K "list" (rMe X.K m) (tE X.K (ev G o)) σ H Q:=by
 obtain ⟨ads,M,ρ,s,q⟩:=q
 have q:OkW X.K ads H Q ((ev G o ρ M).bind fun x M=>if (lstW M x).isSome then (evDs G [] ρ M).bind fun ds M=>meW m x ds M else .stuck):=by simp only [ev_me] at q;exact q
 refine tE_bind s q fun w M1 v H1 ads1 s1 rw1 q1=>?_
 split at q1
 ·rename_i hs
  obtain ⟨es,he⟩:=zqbt.mp hs
  obtain ⟨a,xs,rfl,rd,ha⟩:=lst_ok s1.mem rw1 he
  exact ⟨.inl ⟨rfl,xs,SqL.of ha⟩,ads1,M1,w,[],s1.mem,rw1,(by unfold RDs;rfl),q1⟩
 ·exact q1.elim
theorem few_of {cs:List C} {es:List Expr} (h:chks cc cs es=true) (hl:es.length < 20) (env:Env) (cpos:Pos):((backTo cpos (starEach es env)).all (fun x=>!x.1) && (backToKw cpos (keywordEach [] env)).all (fun x=>x.1.isSome) && decide (es.length+([]:List Keyword).length+(if ([]:List Keyword).isEmpty then 0 else 1) < 30))=true:=by
 have h1:=noStar_any h env cpos
 have h2:(backTo cpos (starEach es env)).all (fun x=>!x.1)=true:=by
  rw [zqa5]
  intro x hx
  rw [zqc7] at h1
  have:=h1 x hx
  simpa using this
 rw [h2]
 simp [keywordEach,backToKw]
 omega
theorem s_me {m:Me} {o:C} {cs:List C} {e:Expr} {es:List Expr} {n:Str} {ap cp:Pos} (hn:n=meName m) (hm:meOk m=true) (hl:(ap.endLine == cp.line)=true) (h0:notCall0 e=true) (hc:chks cc cs es=true) (hlen:es.length < 20) (ho:PE X e (tE X.K (ev G o))) (ha:PA X es (tDs X.K (evDs G cs))):PE X (.Call (.Attribute e n ap) es [] cp) (tE X.K (ev G (.me m o cs))):=by
 have hb:=base_of h0 n X.env (eval e X.env)
 subst hn
 cases es with
 | nil =>
  cases cs with
  | cons _ _=>cases hc
  | nil =>
   cases m with
   | append=>exact peI (pe_bm0 F.plainAttrs_list F.slot_list_append F.type_list_append me_append ho hb hl) fun σ H Q q=>me_key0 q
   | insert=>cases hm
   | reverse=>cases hm
   | extend=>cases hm
   | remove=>cases hm
   | pop=>cases hm
   | clear=>cases hm
 | cons e1 es =>
  have hst:notStar e1=true/\chks cc cs.tail es=true:=by
   cases cs with
   | nil=>cases hc
   | cons c cs =>
    have h':(notStar e1 && chk cc c e1 && chks cc cs es)=true:=hc
    simp only [zqab] at h'
    exact ⟨h'.1.1,h'.2⟩
  have hfew:=few_of hc hlen X.env cp
  cases m with
  | append=>exact peI (pe_bm F.plainAttrs_list F.slot_list_append F.type_list_append me_append ho ha hb hfew hl (star_of hst.1 es X.env) (noStar_any hst.2 X.env cp)) fun σ H Q q=>me_key q
  | insert=>cases hm
  | reverse=>cases hm
  | extend=>cases hm
  | remove=>cases hm
  | pop=>cases hm
  | clear=>cases hm
theorem s_glo {x:Str} {v:Int} {pos:Pos} (g:GoodH kk X cc G) (hg:glob cc x=true) (hp:plainName x=true) (hl:cc.gs.lookup x=some v):PE X (.Name x pos) (tE X.K (ev G (.glo x v))):=by
 obtain ⟨t,ht⟩:=g.gls x v hl
 refine peI (pe_glob (v:=.int v) (g.gl hg) ht ⟨t,rfl⟩ (plain_dbg hp).1) fun σ H Q q=>?_
 obtain ⟨ads,M,ρ,s,q⟩:=q
 exact OkW.plain q s.mem (rd_int _)
theorem RKs.lookup {K:PySem.W.Frag} {ads:List Addr} {H:Hp} {f:Str} {d:D}:∀ {xs:List (Str×D)} {ys:List (Str×V)},RKs K ads H xs ys->xs.lookup f=some d->∃ v,ys.lookup f=some v/\RD K ads H d v
 | [],_,_,e=>nomatch e
 | p::xs,ys,h,e=>by
  unfold RKs at h
  obtain ⟨x,r,rfl,h0,h1,h2⟩:=h
  obtain ⟨a,b⟩:=p
  obtain ⟨a',v⟩:=x
  obtain rfl:a=a':=h0
  by_cases q:f=a
  ·subst q
   simp only [zqac,beq_self_eq_true] at e ⊢
   cases e
   exact ⟨v,rfl,h1⟩
  ·have q:(f == a)=false:=by simpa using q
   simp only [zqac,q] at e ⊢
   exact RKs.lookup h2 e
theorem mem_lookA {α:Type} {c:Addr} {r:α}:∀ {l:List (Addr×α)},l.lookup c=some r->(c,r)∈l
 | [],h=>nomatch h
 | (d,b)::l,h=>by
  rw [zqac] at h
  split at h
  ·rename_i e;cases h;rw [eq_of_beq e];exact zqar
  ·exact zqai _ (mem_lookA h)
theorem s_xf {a:C} {f:Str} {x:Str} {p pos:Pos} (ha:PE X (.Name x p) (tE X.K (ev G a))):PE X (.Attribute (.Name x p) f pos) (tE X.K (ev G (.xf a f))):=by
 refine peI (pe_xf ha rfl) fun σ H Q q=>?_
 obtain ⟨ads,M,ρ,s,q⟩:=q
 refine tE_bind s q fun w M1 v H1 ads1 s1 rw1 q1=>?_
 rcases w with ⟨_|_|_|_|_ | n | _⟩|_ <;> first | exact q1.elim | skip
 have r1:RD X.K ads1 H1 (.adr n) v:=rw1
 unfold RD at r1
 obtain ⟨ad,rfl,ea⟩:=r1
 have q1:OkW X.K ads1 H1 Q (match M1[n]? with
  | some (.xc _ fs)=>(match fs.lookup f with
   | some d=>.ok (.d d) M1
   | none=>.stuck)
  | _=>.stuck):=q1
 cases qm:M1[n]? with
 | none=>rw [qm] at q1;exact q1.elim
 | some ob =>
  rw [qm] at q1
  cases ob with
  | xc C fs =>
   have q1:OkW X.K ads1 H1 Q (match fs.lookup f with
    | some d=>.ok (.d d) M1
    | none=>.stuck):=q1
   cases ql:fs.lookup f with
   | none=>rw [ql] at q1;exact q1.elim
   | some d =>
    rw [ql] at q1
    obtain ⟨dx,gs,hx,hd,rk,Da,fI,xi⟩:=s1.mem.obj n _ ad qm ea
    obtain ⟨u,lu,ru⟩:=rk.lookup ql
    exact ⟨ad,C,Da,fI,dx,_,gs,u,rfl,hx,xi,List.mem_map.mpr ⟨(f,d),zqam ql,rfl⟩,hd,lu,q1 u H1 ads1 (Grow.refl _ _) s1.mem ru⟩
  | lst _=>exact q1.elim
  | scr _=>exact q1.elim
  | dK _=>exact q1.elim
  | dT _=>exact q1.elim
  | dF _=>exact q1.elim
theorem pa_nms (g:GoodH kk X cc G):∀ (xs:List Str) (es:List Expr) (cs:List Addr),chkNm cc xs es=true->xs.map X.mg=cs.map (fun c=>some (.ref c))->PA X es (fun _ H Q=>Q (cs.map V.ref) H)
 | [],[],[],_,_=>paI pa_nil fun _ _ _ q=>q
 | [],[],_::_,_,h=>by cases h
 | [],_::_,_,h,_=>by cases h
 | _::_,[],_,h,_=>by cases h
 | _::_,_::_,[],_,h=>by cases h
 | x::xs,e::es,c::cs,h,hm=>by
  have h:((onName e fun y _=>y == x && glob cc y && plainName y) && chkNm cc xs es)=true:=h
  simp only [zqab] at h
  obtain ⟨h1,h2⟩:=h
  have m1:X.mg x=some (.ref c):=(List.cons.inj hm).1
  have m2:=(List.cons.inj hm).2
  refine onName_el (P:=fun e=>PA X (e::es) _) h1 fun y p h1=>?_
  simp only [zqab] at h1
  obtain ⟨⟨k1,k2⟩,k3⟩:=h1
  obtain rfl:=eq_of_beq k1
  exact paI (pa_cons (pe_glob (v:=.ref c) (g.gl k2) m1 rfl (plain_dbg k3).1) (pa_nms g xs es cs h2 m2) rfl) fun _ _ _ q=>q
theorem s_isx {a:C} {k:IX} {tb:List (Addr×Bool)} {x:Str} {u v:Expr} {p pos:Pos} (g:GoodH kk X cc G) (hx:x = "isinstance") (hg:glob cc x=true) (hs:notStar u=true) (ha:PE X u (tE X.K (ev G a))) (hk:chkIX cc k v=true) (ht:(tb.all fun p=>cc.xs.kt.contains (k,p.1,p.2))=true):PE X (.Call (.Name x p) [u,v] [] pos) (tE X.K (ev G (.isx a k tb))):=by
  have hgl:=g.gl hg
  have hm:X.mg x=none:=g.blt x (by subst hx;show _∈bltNames;decide +kernel)
  subst hx
  have core : ∀ {v : Expr} {tv : TE}, notStar v = true -> PE X v tv -> (∀ (n : Nat) (M1 : Mem) (C : Addr) (fs : List (Str × Ev.D)) (r : Bool) (σ : L2.St) (H1 : Hp) (ads1 : List Addr) (Q : VK), MRel X.K ads1 H1 M1 -> KitIs X.K X.mg k C r ->
      (∀ y H2 ads2,Grow ads1 ads2 H1 H2->MRel X.K ads2 H2 M1->((∃ c,RelV y c/\PySem.W.kitOne X.K (.ref C) c=some r)\/∃ (tp:Addr) (cs:List Addr),y=.ref tp/\H2 tp=some (.tup (cs.map V.ref))/\PySem.W.kitAny X.K (.ref C) (cs.map Value.ref)=some r)->Q y H2)->tv σ H1 Q) ->
      PE X (.Call (.Name "isinstance" p) [u,v] [] pos) (tE X.K (ev G (.isx a k tb))):=by
    intro v tv hsv pv hv
    refine peI (pe_callB call_isx hgl hm boot_isinstance (pa_cons ha (pa_cons pv pa_nil (star_of hsv [] X.env)) (star_of hs _ X.env)) (⋯) (⋯) (star_of hs _ X.env) (by rw [star_of hsv [] X.env];rfl)) fun σ H Q q=>?_
    obtain ⟨ads,M,ρ,s,q⟩:=q
    refine tE_bind s q fun w M1 vv H1 ads1 s1 rw1 q1=>?_
    rcases w with ⟨_|_|_|_|_ | n | _⟩|_ <;> first | exact q1.elim | skip
    have r1:RD X.K ads1 H1 (.adr n) vv:=rw1
    unfold RD at r1
    obtain ⟨ad,rfl,ea⟩:=r1
    have q1:OkW X.K ads1 H1 Q (match M1[n]? with
      | some (.xc C _)=>(match tb.lookup C with
        | some b=>.ok (.d (.bl b)) M1
        | none=>.stuck)
      | _=>.stuck):=q1
    cases qm:M1[n]? with
    | none=>rw [qm] at q1;exact q1.elim
    | some ob =>
      rw [qm] at q1
      cases ob with
      | xc C fs =>
        have q1:OkW X.K ads1 H1 Q (match tb.lookup C with
          | some b=>.ok (.d (.bl b)) M1
          | none=>.stuck):=q1
        cases ql:tb.lookup C with
        | none=>rw [ql] at q1;exact q1.elim
        | some r =>
          rw [ql] at q1
          have ki:=g.kit k C r (by have:=zqa5.mp ht (C,r) (mem_lookA ql);simpa using this)
          obtain ⟨dx,gs,hx,hd,rk,Da,fI,xi⟩:=s1.mem.obj n _ ad qm ea
          refine hv n M1 C fs r σ H1 ads1 _ s1.mem ki fun y H2 ads2 g2 m2 hy=>?_
          obtain ⟨dx2,gs2,hx2,_⟩:=m2.obj n _ ad qm (g2.get ea)
          exact ⟨ad,C,dx2,Da,fI,_,y,r,rfl,hx2,xi,hy,q1 (.bl r) H2 ads2 g2 m2 (show RD X.K ads2 H2 (.bl r) (.bl r) from rd_bl _)⟩
      | lst _=>exact q1.elim
      | scr _=>exact q1.elim
      | dK _=>exact q1.elim
      | dT _=>exact q1.elim
      | dF _=>exact q1.elim
  cases k with
  | one c =>
    refine onName_el (P:=fun v=>PE X (.Call (.Name "isinstance" p) [u,v] [] pos) _) hk fun y py h1=>?_
    simp only [zqab] at h1
    obtain ⟨⟨k1,k2⟩,k3⟩:=h1
    obtain rfl:=eq_of_beq k1
    cases hmc:X.mg y with
    | none =>
      intro pins s σ H Q I q
      obtain ⟨ads,M,ρ,sr,q⟩:=q
      exact (core (v:=.Name y py) (tv:=fun _ _ _=>False) rfl (fun _ _ _ _ _ _ z=>z.elim) (fun n M1 C fs r σ H1 ads1 Q m ⟨c,hc,_⟩ hq=>by rw [hmc] at hc;cases hc)) pins s σ H Q I ⟨ads,M,ρ,sr,q⟩
    | some val =>
      cases hv:val with
      | ref c =>
        rw [hv] at hmc
        refine core rfl (pe_glob (v:=.ref c) (g.gl k2) hmc rfl (plain_dbg k3).1) fun n M1 C fs r σ H1 ads1 Q m ⟨c',hc,e⟩ hq=>?_
        rw [hmc] at hc;cases hc
        exact hq _ H1 ads1 (Grow.refl _ _) m (.inl ⟨.ref c,rfl,e⟩)
      | _=>exact core (v:=.Name y py) (tv:=fun _ _ _=>False) rfl (fun _ _ _ _ _ _ z=>z.elim) (fun n M1 C fs r σ H1 ads1 Q m ⟨c,hc,_⟩ hq=>by rw [hmc,hv] at hc;cases hc)
  | ve =>
    refine onName_el (P:=fun v=>PE X (.Call (.Name "isinstance" p) [u,v] [] pos) _) hk fun y py h1=>?_
    simp only [zqab] at h1
    obtain ⟨k1,k2⟩:=h1
    obtain rfl:=eq_of_beq k1
    cases hmc:X.mg "ValueError" with
    | some _=>exact core (v:=.Name "ValueError" py) (tv:=fun _ _ _=>False) rfl (fun _ _ _ _ _ _ z=>z.elim) (fun n M1 C fs r σ H1 ads1 Q m ⟨hc,_⟩ hq=>by rw [hmc] at hc;cases hc)
    | none =>
      refine core rfl (pe_bltn (v:=.ty "ValueError") (u:=.type "ValueError") (g.gl k2) hmc (nofun) rfl) fun n M1 C fs r σ H1 ads1 Q m ⟨_,e⟩ hq=>?_
      exact hq _ H1 ads1 (Grow.refl _ _) m (.inl ⟨.type "ValueError",rfl,e⟩)
  | many xs =>
    refine onTuple_el (P:=fun v=>PE X (.Call (.Name "isinstance" p) [u,v] [] pos) _) hk fun es kt py h1=>?_
    simp only [zqab,zqbu] at h1
    by_cases hc:∃ cs:List Addr,xs.map X.mg=cs.map (fun c=>some (.ref c))
    · obtain ⟨cs,hc⟩:=hc
      have hl:cs.length=xs.length:=by have:=zqb6 List.length hc;simpa using this.symm
      refine core rfl (pe_tup (pa_nms g xs es cs h1.1 hc)) fun n M1 C fs r σ H1 ads1 Q m ⟨cs',hc',e⟩ hq=>?_
      have:cs'=cs:=by
        have:=hc.symm.trans hc'
        exact (List.map_inj_right (f:=fun c=>some (Value.ref c)) (fun a b z=>by cases z;rfl)).mp this.symm
      subst this
      refine ⟨by rw [zqaz,hl];exact zqat (zqbq h1.2) (by decide),fun tp ntp=>?_⟩
      exact hq _ _ ads1 (Grow.new1 m ntp) (m.new1 ntp) (.inr ⟨tp,cs',rfl,upd_same,e⟩)
    · exact core (v:=.Tuple es kt py) (tv:=fun _ _ _=>False) rfl (fun _ _ _ _ _ _ z=>z.elim) (fun n M1 C fs r σ H1 ads1 Q m ⟨cs,hc',_⟩ hq=>absurd ⟨cs,hc'⟩ hc)
theorem s_hcall {f:Nat} {cs:List C} {x:Str} {e:Expr} {es:List Expr} {p pos:Pos} (g:GoodH kk X cc G) (hf:cc.fs[f]?=some (x,cs.length)) (hh:f∈cc.xs.hs) (hg:glob cc x=true) (hp:plainName x=true) (hc:chks cc cs (e::es)=true) (ha:PA X (e::es) (tDs X.K (evDs G cs))):PE X (.Call (.Name x p) (e::es) [] pos) (tE X.K (ev G (.hcall f cs))):=by
 obtain ⟨fa,fd,ps,F,hm,hk,hb⟩:=g.hfs f x _ hf hh
 have hst:notStar e=true/\chks cc cs.tail es=true:=by
  cases cs with
  | nil=>cases hc
  | cons c cs =>
   have h':(notStar e && chk cc c e && chks cc cs es)=true:=hc
   simp only [zqab] at h'
   exact ⟨h'.1.1,h'.2⟩
 refine peI (pe_callH (pos:=pos) (p:=p) (E:=E0) F g.rh (g.gl hg) hm hk hb .nil pass0 ha (plain_dbg hp).1 (star_of hst.1 es X.env) (noStar_any hst.2 X.env pos)) fun σ H Q q=>?_
 obtain ⟨ads,M,ρ,s,q⟩:=q
 refine ⟨ads,M,ρ,s,?_⟩
 simp only [ev_hcall] at q
 cases hq:evDs G cs ρ M with
 | ok ds M1 =>
  rw [hq] at q
  intro vs H1 ads1 g1 m1 r1
  have q:OkW X.K ads H Q ((G f ds M1).b0 .ok):=q
  refine ⟨ads1,M1,ds,m1,?_,evDs_len cs ρ M ds M1 hq,?_⟩
  ·rw [zqbs];exact r1
  ·cases hG:G f ds M1 with
   | ok w M2=>rw [hG] at q;exact OkW.shift (o:=.ok w M2) q g1 s.mem m1
   | err _ _=>rw [hG] at q;exact q.elim
   | stuck=>rw [hG] at q;exact q.elim
 | err _ _=>rw [hq] at q;exact q
 | stuck=>rw [hq] at q;exact q
end
end
section
variable [EX]
section
variable {kk:Nat} {X:Cx} {cc:CC} {G:Fns}
structure TF (H H':Hp):Prop where
 tup:TupK H H'
 frz:∀ b o u,H b=some (.frz o u)->H' b=some (.frz o u)
 xd:∀ b gs,H b=some (.xd gs)->H' b=some (.xd gs)
theorem TF.scr {K:PySem.W.Frag} {H H':Hp} (t:TF H H') {a:Addr} {xs:List V} (h:ScrL K H a xs):ScrL K H' a xs:=by
 rcases h with ⟨o,h⟩ | h
 ·exact .inl ⟨o,t.frz _ _ _ h⟩
 ·exact .inr h
mutual
theorem RD.keep {K:PySem.W.Frag} {ads:List Addr} {H H':Hp} (t:TF H H'):∀ (d:D) (v:V),RD K ads H d v->RD K ads H' d v
 | .non,_,h=>by unfold RD at *;exact h
 | .bl _,_,h=>by unfold RD at *;exact h
 | .int _,_,h=>by unfold RD at *;exact h
 | .str _,_,h=>by unfold RD at *;exact h
 | .adr n,v,h=>by unfold RD at *;exact h
 | .tup ds,v,h=>by unfold RD at *;obtain ⟨a,xs,e,h,r⟩:=h;exact ⟨a,xs,e,t.tup _ _ h,RDs.keep t ds xs r⟩
 | .ls ds,v,h=>by unfold RD at *;obtain ⟨a,xs,e,h,r⟩:=h;exact ⟨a,xs,e,t.scr h,RDs.keep t ds xs r⟩
theorem RDs.keep {K:PySem.W.Frag} {ads:List Addr} {H H':Hp} (t:TF H H'):∀ (ds:List D) (vs:List V),RDs K ads H ds vs->RDs K ads H' ds vs
 | [],_,h=>by unfold RDs at *;exact h
 | d::ds,vs,h=>by unfold RDs at *;obtain ⟨x,r,e,h1,h2⟩:=h;exact ⟨x,r,e,RD.keep t d x h1,RDs.keep t ds r h2⟩
end
theorem RKs.keep {κ:Type} {K:PySem.W.Frag} {ads:List Addr} {H H':Hp} (t:TF H H'):∀ (ds:List (κ×D)) (vs:List (κ×V)),RKs K ads H ds vs->RKs K ads H' ds vs
 | [],_,h=>by unfold RKs at *;exact h
 | d::ds,vs,h=>by unfold RKs at *;obtain ⟨x,r,e,h0,h1,h2⟩:=h;exact ⟨x,r,e,h0,RD.keep t d.2 x.2 h1,RKs.keep t ds r h2⟩
theorem MRel.keep {K:PySem.W.Frag} {ads:List Addr} {H H':Hp} {M:Mem} (m:MRel K ads H M) (t:TF H H') (k:∀ a∈ads,H' a=H a):MRel K ads H' M:=⟨m.nd,m.len,fun n o a e1 e2=>by
 have h:=m.obj n o a e1 e2
 have ha:=k a (zqba e2)
 cases o with
 | lst ds=>obtain ⟨xs,h,r⟩:=h;exact ⟨xs,ha.trans h,RDs.keep t _ _ r⟩
 | scr ds=>obtain ⟨o,xs,h,r⟩:=h;exact ⟨o,xs,ha.trans h,RDs.keep t _ _ r⟩
 | dK ds=>obtain ⟨xs,h,r⟩:=h;exact ⟨xs,ha.trans h,RKs.keep t _ _ r⟩
 | dT ds=>obtain ⟨xs,h,r⟩:=h;exact ⟨xs,ha.trans h,RKs.keep t _ _ r⟩
 | dF ds=>obtain ⟨o,xs,h,r⟩:=h;exact ⟨o,xs,ha.trans h,RKs.keep t _ _ r⟩
 | xc C ds=>obtain ⟨dx,gs,h,hd,r,x⟩:=h;exact ⟨dx,gs,ha.trans h,t.xd _ _ hd,RKs.keep t _ _ r,x⟩⟩
theorem mergeK_nodup:∀ (kvs acc:List (Key×V)),(acc.map (·.1)++kvs.map (·.1)).Nodup->mergeK acc kvs=acc++kvs
 | [],acc,_=>by simp [mergeK]
 | p::ps,acc,h=>by
  have hn:¬ p.1∈acc.map (·.1):=by
   intro hm
   rw [List.nodup_append] at h
   exact h.2.2 _ hm _ (by simp) rfl
  have ha:(acc.any fun kv=>decide (kv.1=p.1))=false:=by
   rw [zqc7]
   intro x hx
   simp only [zqbu]
   exact fun e=>hn (e ▸ List.mem_map_of_mem hx)
  have e:mergeK acc (p::ps)=mergeK (acc++[p]) ps:=by
   show mergeK (putK acc p.1 p.2) ps=_
   unfold putK
   rw [ha]
   simp
  rw [e,mergeK_nodup ps (acc++[p]) (by simpa using h)]
  simp
def pairsT (K:PySem.W.Frag) (G:Fns):List Str->List C->List (TE×TE)
 | k::ks,c::cs=>(tC (.str k),tE K (ev G c))::pairsT K G ks cs
 | _,_=>[]
theorem pairs_mono {K:PySem.W.Frag} (ks:List Str) (cs:List C):∀ t∈pairsT K G ks cs,(∀ σ H A B,(∀ v H,A v H->B v H)->t.1 σ H A->t.1 σ H B)/\(∀ σ H A B,(∀ v H,A v H->B v H)->t.2 σ H A->t.2 σ H B):=by
 intro t ht
 have:∀ (ks:List Str) (cs:List C),t∈pairsT K G ks cs->∃ k c,t=(tC (.str k),tE K (ev G c)):=by
  intro ks
  induction ks with
  | nil=>intro cs h;cases cs <;> cases h
  | cons k ks ih =>
   intro cs h
   cases cs with
   | nil=>cases h
   | cons c cs =>
    rcases zqaq.mp h with z | z
    ·exact ⟨k,c,z⟩
    ·exact ih cs z
 obtain ⟨k,c,rfl⟩:=this ks cs ht
 refine ⟨fun σ H A B f h=>f _ _ h,fun σ H A B f h=>?_⟩
 obtain ⟨ads,M,ρ,s,q⟩:=h
 refine ⟨ads,M,ρ,s,?_⟩
 cases hq:ev G c ρ M with
 | ok w M1=>rw [hq] at q;exact fun v H' ads' g m r=>f _ _ (q v H' ads' g m r)
 | err _ _=>rw [hq] at q;exact q
 | stuck=>rw [hq] at q;exact q
theorem pairs_ok {K:PySem.W.Frag} {ρ:En} {σ:L2.St}:∀ (ks:List Str) (cs:List C) {ads:List Addr} {H:Hp} {M:Mem} {R:List V->Hp->Prop},ks.length=cs.length->SR K ads M ρ σ H->OkDs K ads H R (evDs G cs ρ M)->tPairs (pairsT K G ks cs) σ H fun ps H2=>∃ vs,ps=(ks.map V.str).zip vs/\vs.length=ks.length/\R vs H2
 | [],[],ads,H,M,R,_,s,h=>⟨[],rfl,rfl,h [] H ads (Grow.refl _ _) s.mem (by unfold RDs;rfl)⟩
 | [],_::_,_,_,_,_,e,_,_=>by cases e
 | _::_,[],_,_,_,_,e,_,_=>by cases e
 | k::ks,c::cs,ads,H,M,R,e,s,h=>by
  show tE K (ev G c) σ H fun y H2=>tPairs (pairsT K G ks cs) σ H2 fun ps H3=>_
  refine ⟨ads,M,ρ,s,?_⟩
  simp only [evDs_nil,evDs_cons] at h
  cases hq:ev G c ρ M with
  | ok w M1 =>
   rw [hq] at h
   intro v H1 ads1 g1 m1 r1
   cases ho:own w M1 with
   | ok d M2 =>
    have h:OkDs K ads H R ((own w M1).bind fun d M=>(evDs G cs ρ M).bind fun ds M=>.ok (d::ds) M):=h
    rw [ho] at h
    obtain ⟨ads2,g2,m2,rd⟩:=own_ok s.mem g1 m1 r1 ho
    have h:OkDs K ads H R ((evDs G cs ρ M2).bind fun ds M=>.ok (d::ds) M):=h
    have h2:OkDs K ads2 H1 (fun vs H'=>R (v::vs) H') (evDs G cs ρ M2):=by
     cases hq3:evDs G cs ρ M2 with
     | ok ds M3 =>
      rw [hq3] at h
      intro vs H3 ads3 g3 m3 r3
      refine h (v::vs) H3 ads3 (g2.trans g3) m3 ?_
      unfold RDs
      exact ⟨v,vs,rfl,g3.rd _ _ rd,r3⟩
     | err _ _=>rw [hq3] at h;exact EX.shift (show EX.post K ads H _ _ from h) g2
     | stuck=>rw [hq3] at h;exact h
    have ih:=pairs_ok ks cs (by simpa using e) (s.grow g2 m2) h2
    have mono:∀ (trs:List (TE×TE)) (H:Hp) (P Q:List (V×V)->Hp->Prop),(∀ ps H,P ps H->Q ps H)->(∀ t∈trs,(∀ σ H A B,(∀ v H,A v H->B v H)->t.1 σ H A->t.1 σ H B)/\(∀ σ H A B,(∀ v H,A v H->B v H)->t.2 σ H A->t.2 σ H B))->tPairs trs σ H P->tPairs trs σ H Q:=by
     intro trs
     induction trs with
     | nil=>intro H P Q f _ h;exact f _ _ h
     | cons t trs ih =>
      intro H P Q f hm h
      obtain ⟨m1,m2⟩:=hm t zqar
      refine m1 σ H _ _ (fun x H1 h1=>m2 σ H1 _ _ (fun y H2 h2=>ih H2 _ _ (fun ps H3 h3=>f _ _ h3) (fun t ht=>hm t (zqai _ ht)) h2) h1) h
    refine mono _ _ _ _ ?_ ?_ ih
    ·rintro ps H3 ⟨vs,rfl,hl,hR⟩
     exact ⟨v::vs,rfl,by simp [hl],hR⟩
    ·intro t ht
     exact pairs_mono ks cs t ht
   | err _ _=>cases w <;> cases ho
   | stuck=>cases w <;> cases ho
  | err _ _=>rw [hq] at h;exact h
  | stuck=>rw [hq] at h;exact h
theorem pairs_pp {ks:List Str} {cs:List C}:∀ {keys:List (Option Expr)} {vs:List Expr} {pos:Pos},strKeys ks keys=true->ks.length=cs.length->chks cc cs vs=true->(∀ c∈cs,∀ e,chk cc c e=true->PE X e (tE X.K (ev G c)))->PPs X pos keys vs (pairsT X.K G ks cs):=by
 induction ks generalizing cs with
 | nil =>
  intro keys vs pos h1 h2 h3 ih
  cases keys with
  | cons _ _=>cases h1
  | nil =>
   cases cs with
   | cons _ _=>cases h2
   | nil =>
    cases vs with
    | cons _ _=>cases h3
    | nil=>exact pps_nil
 | cons k ks ihk =>
  intro keys vs pos h1 h2 h3 ih
  cases cs with
  | nil=>cases h2
  | cons c cs =>
   cases vs with
   | nil=>cases h3
   | cons e es =>
    have h':(notStar e && chk cc c e && chks cc cs es)=true:=h3
    simp only [zqab] at h'
    cases keys with
    | nil=>cases h1
    | cons ky keys =>
     cases ky with
     | none=>cases h1
     | some ke =>
      obtain ⟨h1,hk⟩:=(zqab _ _).mp h1
      refine onConstant_el (P:=fun ke=>PPs X pos (some ke::keys) (e::es) _) h1 fun cn j p h1=>?_
      cases cn <;> first | exact absurd (show false=true from h1) zqaa | skip
      rename_i st
      obtain rfl:k=st:=eq_of_beq h1
      exact pps_cons pe_str (ih c zqar e h'.1.2) (ihk hk (by simpa using h2) h'.2 fun c hc=>ih c (zqai _ hc))
theorem strKeys_some:∀ {ks:List Str} {keys:List (Option Expr)},strKeys ks keys=true->keys.all (·.isSome)=true/\keys.length=ks.length
 | [],[],_=>⟨rfl,rfl⟩
 | [],_::_,h=>by cases h
 | _::_,[],h=>by cases h
 | k::ks,ky::keys,h=>by
  cases ky with
  | none=>cases h
  | some ke =>
   obtain ⟨a,b⟩:=strKeys_some ((zqab _ _).mp h).2
   exact ⟨by simp [a],by simp [b]⟩
theorem chks_len:∀ {cs:List C} {es:List Expr},chks cc cs es=true->cs.length=es.length
 | [],[],_=>rfl
 | [],_::_,h=>by cases h
 | _::_,[],h=>by cases h
 | c::cs,e::es,h=>by
  have h':(notStar e && chk cc c e && chks cc cs es)=true:=h
  simp only [zqab] at h'
  simp [chks_len h'.2]
theorem zip_fst {α β:Type}:∀ (l:List α) (r:List β),l.length=r.length->(l.zip r).map (·.1)=l
 | [],_,_=>by simp
 | a::l,[],h=>by simp at h
 | a::l,b::r,h=>by simp [zip_fst l r (by simpa using h)]
theorem rks_zip {K:PySem.W.Frag} {ads:List Addr} {H:Hp}:∀ (ks:List Key) {ds:List D} {vs:List V},RDs K ads H ds vs->ks.length=ds.length->RKs K ads H (ks.zip ds) (ks.zip vs)
 | [],ds,vs,r,h=>by simp;unfold RKs;rfl
 | k::ks,[],vs,r,h=>by simp at h
 | k::ks,d::ds,vs,r,h=>by
  unfold RDs at r
  obtain ⟨x,r',rfl,h1,h2⟩:=r
  show RKs K ads H ((k,d)::ks.zip ds) ((k,x)::ks.zip r')
  unfold RKs
  exact ⟨_,_,rfl,rfl,h1,rks_zip ks h2 (by simpa using h)⟩
theorem s_dct0 {pos:Pos}:PE X (.Dict [] [] pos) (tE X.K (ev G (.dct [] []))):=by
 refine peI pe_dnewK fun σ H Q q=>?_
 obtain ⟨ads,M,ρ,s,q⟩:=q
 intro p hp
 have q:OkW X.K ads H Q (.ok (.d (.adr M.length)) (M++[.dK []])):=by
  simp only [ev_dct,evDs_nil,evDs_cons] at q
  exact q
 exact q.dnew s.mem hp (show RKs X.K ads H [] [] by unfold RKs;rfl)
theorem s_dct {ks:List Str} {cs:List C} {keys:List (Option Expr)} {vs:List Expr} {pos:Pos} (h1:strKeys ks keys=true) (hn:ks.Nodup) (h0:keys≠[]) (h15:keys.length<=15) (hc:chks cc cs vs=true) (hl:ks.length=cs.length) (ih:∀ c∈cs,∀ e,chk cc c e=true->PE X e (tE X.K (ev G c))):PE X (.Dict keys vs pos) (tE X.K (ev G (.dct ks cs))):=by
 obtain ⟨k1,k2⟩:=strKeys_some h1
 refine peI (pe_disp (pairs_pp h1 hl hc ih) k1 (by rw [k2,hl,chks_len hc]) h0 h15) fun σ H Q q=>?_
 obtain ⟨ads,M,ρ,s,q⟩:=q
 intro p hp
 have hpn:=s.mem.fresh hp
 have g0:Grow ads ads H (upd H p (.dK [])):=Grow.new1 s.mem hp
 have s0:SR X.K ads M ρ σ (upd H p (.dK [])):=s.grow g0 (s.mem.new1 hp)
 simp only [ev_dct] at q
 have main:OkDs X.K ads (upd H p (.dK [])) (fun vs H2=>H2 p=some (.dK [])/\(vs.length=ks.length->Q (.ref p) (upd H2 p (.dK ((ks.map Sum.inr).zip vs))))) (evDs G cs ρ M):=by
  cases hq:evDs G cs ρ M with
  | ok ds M1 =>
   rw [hq] at q
   have q:OkW X.K ads H Q (if ks.length=ds.length then .ok (.d (.adr M1.length)) (M1++[.dK ((ks.map Sum.inr).zip ds)]) else .stuck):=q
   split at q
   ·rename_i hld
    intro vs H2 ads2 g2 m2 r2
    have e2:H2 p=some (.dK []):=g2.kept p _ hpn upd_same
    refine ⟨e2,fun hvl=>?_⟩
    have pn2:p∉ads2:=g2.notin hpn upd_same
    have tk:TF H2 (upd H2 p (.dK ((ks.map Sum.inr).zip vs))):=⟨fun b xs h=>by rw [upd_ne (fun z=>by subst z;rw [e2] at h;cases h)];exact h,fun b o u h=>by rw [upd_ne (fun z=>by subst z;rw [e2] at h;cases h)];exact h,fun b gs h=>by rw [upd_ne (fun z=>by subst z;rw [e2] at h;cases h)];exact h⟩
    have m3:MRel X.K ads2 (upd H2 p (.dK ((ks.map Sum.inr).zip vs))) M1:=m2.keep tk fun a ha=>upd_ne (fun z=>by subst z;exact pn2 ha)
    have r3:=RDs.keep (K:=X.K) (ads:=ads2) tk _ _ r2
    have m4:=m3.push (o:=.dK ((ks.map Sum.inr).zip ds)) pn2 ⟨_,upd_same,rks_zip (ks.map Sum.inr) r3 (by simpa using hld)⟩
    obtain ⟨t,et⟩:=g2.pre
    refine q (.ref p) _ (ads2++[p]) ⟨⟨t++[p],by rw [et,zqb8]⟩,fun b hb nb=>?_,fun b x nb h=>?_,fun b xs h=>?_,fun b o u h=>?_⟩ m4 ?_
    ·rcases zqbx.mp hb with z | z
     ·have:=g2.new b z nb
      by_cases hbp:b=p
      ·subst hbp;exact hp
      ·rw [upd_ne hbp] at this;exact this
     ·have:b=p:=by simpa using z
      subst this;exact hp
    ·have hbp:b≠p:=fun z=>by subst z;rw [hp] at h;cases h
     rw [upd_ne hbp]
     exact g2.kept b x nb (by rw [upd_ne hbp];exact h)
    ·have hbp:b≠p:=fun z=>by subst z;rw [hp] at h;cases h
     rw [upd_ne hbp]
     exact g2.tups b xs (by rw [upd_ne hbp];exact h)
    ·have hbp:b≠p:=fun z=>by subst z;rw [hp] at h;cases h
     rw [upd_ne hbp]
     exact g2.frz b o u (by rw [upd_ne hbp];exact h)
    ·show RD X.K (ads2++[p]) (upd H2 p (.dK ((ks.map Sum.inr).zip vs))) (.adr M1.length) (.ref p)
     unfold RD
     exact ⟨p,rfl,by rw [zqaw (by rw [m2.len];exact zqae _)];simp [m2.len]⟩
   ·exact q.elim
  | err _ _=>rw [hq] at q;exact EX.shift (show EX.post X.K ads H _ _ from q) (Grow.new1 s.mem hp)
  | stuck=>rw [hq] at q;exact q
 have h:=pairs_ok ks cs hl s0 main
 have mono:∀ (trs:List (TE×TE)) (H:Hp) (P Q:List (V×V)->Hp->Prop),(∀ ps H,P ps H->Q ps H)->(∀ t∈trs,(∀ σ H A B,(∀ v H,A v H->B v H)->t.1 σ H A->t.1 σ H B)/\(∀ σ H A B,(∀ v H,A v H->B v H)->t.2 σ H A->t.2 σ H B))->tPairs trs σ H P->tPairs trs σ H Q:=by
  intro trs
  induction trs with
  | nil=>intro H P Q f _ h;exact f _ _ h
  | cons t trs ih =>
   intro H P Q f hm h
   obtain ⟨m1,m2⟩:=hm t zqar
   refine m1 σ H _ _ (fun x H1 h1=>m2 σ H1 _ _ (fun y H2 h2=>ih H2 _ _ (fun ps H3 h3=>f _ _ h3) (fun t ht=>hm t (zqai _ ht)) h2) h1) h
 refine mono _ _ _ _ ?_ (pairs_mono ks cs) h
 rintro ps H2 ⟨vs,rfl,hvl,e2,hQ⟩
 refine ⟨e2,(ks.map Sum.inr).zip vs,?_,?_,?_⟩
 ·rw [List.zip_map_left,List.zip_map_left,List.map_map]
  rfl
 ·rw [List.length_zip,zqaz,hvl]
  omega
 ·have hnd:((([]:List (Key×V)).map (·.1))++((ks.map (Sum.inr (α:=Int))).zip vs).map (·.1)).Nodup:=by
   rw [zip_fst _ _ (by rw [zqaz];exact hvl.symm)]
   simp only [List.map_nil,List.nil_append]
   exact List.Pairwise.map _ (fun a b hab z=>hab (Sum.inr.inj z)) hn
  rw [mergeK_nodup _ _ hnd]
  exact hQ hvl
end
end
section
variable [EX]
def RIt (K:PySem.W.Frag) (ads:List Addr) (H:Hp) (it:Ev.It) (J:L2.It):Prop :=
 ∀ (i:Nat) (ads1:List Addr) (H1:Hp) (M1:Mem),Grow ads ads1 H H1->MRel K ads1 H1 M1 ->
  (itemAt M1 i it=some none->J.stop i H1) /\
  (∀ d,itemAt M1 i it=some (some d)->J.go i H1/\∀ x H2,J.yld i H1 x H2->Grow ads1 ads1 H1 H2/\MRel K ads1 H2 M1/\RD K ads1 H2 d x)
def OkIt (K:PySem.W.Frag) (ads:List Addr) (H:Hp) (R:L2.It->Hp->Prop):Out Ev.It->Prop
 | .ok it M=>∀ J H' ads',Grow ads ads' H H'->MRel K ads' H' M->RIt K ads' H' it J->R J H'
 | .err x M=>EX.post K ads H x M
 | .stuck=>False
def tI (K:PySem.W.Frag) (o:En->Mem->Out Ev.It):TI:=fun σ H R=>∃ ads M ρ,SR K ads M ρ σ H/\OkIt K ads H R (o ρ M)
def evSrc (G:Fns) (k:SK) (src:List C) (ρ:En) (M:Mem):Out Ev.It:=(evWs G src ρ M).bind fun ws M=>srcW k ws M
section
variable {K:PySem.W.Frag} {ads:List Addr} {H:Hp} {M:Mem}
theorem rit_rng (lo:Int) (n:Nat):RIt K ads H (.rng lo n) (Itr lo n):=by
 intro i ads1 H1 M1 g1 m1
 refine ⟨fun e=>?_,fun d e=>?_⟩
 ·by_cases h:i < n
  ·simp [itemAt,h] at e
  ·exact zqc1.mp h
 ·by_cases h:i < n
  ·simp only [itemAt,zqav h,zqbi] at e
   subst e
   refine ⟨h,fun x H2 y=>?_⟩
   obtain ⟨rfl,rfl⟩:=y
   exact ⟨Grow.refl _ _,m1,rd_int _⟩
  ·simp [itemAt,h] at e
theorem rit_list {it:Ev.It} {a:Addr} (h:∀ (i:Nat) (ads1:List Addr) (H1:Hp) (M1:Mem),Grow ads ads1 H H1->MRel K ads1 H1 M1->∀ o,itemAt M1 i it=some o->∃ ds xs,o=ds[i]?/\RDs K ads1 H1 ds xs/\SqL K H1 a xs):RIt K ads H it (Itl K a):=by
 intro i ads1 H1 M1 g1 m1
 refine ⟨fun e=>?_,fun d e=>?_⟩
 ·obtain ⟨ds,xs,e2,rd,sq⟩:=h i ads1 H1 M1 g1 m1 _ e
  refine ⟨xs,sq,?_⟩
  rw [<- rd.len]
  exact List.getElem?_eq_none_iff.mp e2.symm
 ·obtain ⟨ds,xs,e2,rd,sq⟩:=h i ads1 H1 M1 g1 m1 _ e
  obtain ⟨v,ev,rv⟩:=rd.get e2.symm
  refine ⟨⟨xs,v,sq,ev⟩,fun x H2 y=>?_⟩
  obtain ⟨rfl,y⟩:=y
  have:=y xs sq
  rw [ev] at this
  cases this
  exact ⟨Grow.refl _ _,m1,rv⟩
theorem rit_tup {ds:List D} {xs:List V} {a:Addr} (ha:H a=some (.tup xs)) (rd:RDs K ads H ds xs):RIt K ads H (.items ds) (Itt K a):=by
 intro i ads1 H1 M1 g1 m1
 have sq:SqT K H1 a xs:=SqT.of (g1.tups _ _ ha)
 have rd1:=g1.rds _ _ rd
 refine ⟨fun e=>?_,fun d e=>?_⟩
 ·refine ⟨xs,sq,?_⟩
  rw [<- rd.len]
  exact List.getElem?_eq_none_iff.mp (zqag e)
 ·obtain ⟨v,ev,rv⟩:=rd1.get (zqag e)
  refine ⟨⟨xs,v,sq,ev⟩,fun x H2 y=>?_⟩
  obtain ⟨rfl,y⟩:=y
  have:=y xs sq
  rw [ev] at this
  cases this
  exact ⟨Grow.refl _ _,m1,rv⟩
end
theorem at_list {K:PySem.W.Frag} {ads:List Addr} {H:Hp} {M:Mem} {n:Nat} {v:V} {p:Bool×List D} (m:MRel K ads H M) (r:RD K ads H (.adr n) v) (hp:seqW M (.d (.adr n))=some p):∃ a,v=.ref a/\∃ xs,SqL K H a xs:=by
 obtain ⟨l,ds⟩:=p
 obtain ⟨a,xs,e,rd,sq⟩:=seq_ok (w:=.d (.adr n)) m r hp
 rcases sq with ⟨_,sq⟩|⟨hl,_⟩
 ·exact ⟨a,e,xs,sq⟩
 ·simp only [seqW] at hp
  split at hp
  ·cases hp;cases hl
  ·cases hp;cases hl
  ·cases hp
theorem at_items {K:PySem.W.Frag} {ads ads2:List Addr} {H H2:Hp} {M2:Mem} {n i:Nat} {a:Addr} {o:Option D} (r:RD K ads H (.adr n) (.ref a)) (g2:Grow ads ads2 H H2) (m2:MRel K ads2 H2 M2) (e:itemAt M2 i (.at n)=some o):∃ ds xs,o=ds[i]?/\RDs K ads2 H2 ds xs/\SqL K H2 a xs:=by
 unfold RD at r
 obtain ⟨b,eb,ea⟩:=r
 cases eb
 have ea2:=g2.get ea
 simp only [itemAt] at e
 split at e
 ·rename_i ds q
  obtain ⟨xs,h,rd⟩:=m2.obj n _ a q ea2
  exact ⟨ds,xs,(zqag e).symm,rd,SqL.of h⟩
 ·rename_i ds q
  obtain ⟨o,xs,h,rd⟩:=m2.obj n _ a q ea2
  exact ⟨ds,xs,(zqag e).symm,rd,.inl (.inr ⟨o,h⟩)⟩
 ·cases e
section
variable {kk:Nat} {X:Cx} {cc:CC} {G:Fns} {tg:Expr} {K:PySem.W.Frag} {ads:List Addr} {H:Hp}
theorem piI {iter:Expr} {t u:TI} (h:PI X tg iter t) (f:∀ σ H R,u σ H R->t σ H R):PI X tg iter u:=fun pins s σ H R I q=>h pins s σ H R I (f σ H R q)
theorem src_seq {c:C} {iter:Expr} (he:PE X iter (tE X.K (ev G c))):PI X tg iter (tI X.K (evSrc G .seq [c])):=by
 intro pins s σ H R I q
 obtain ⟨ads,M,ρ,sr,q⟩:=q
 simp only [evSrc,evWs] at q
 cases hq:ev G c ρ M with
 | ok w M1 =>
  rw [hq] at q
  have q:OkIt X.K ads H R (srcW .seq [w] M1):=q
  cases w with
  | lv ds =>
   have q:OkIt X.K ads H R (.ok (.items ds) M1):=q
   refine pi_list he pins s σ H R I ⟨ads,M,ρ,sr,?_⟩
   rw [hq]
   intro v H1 ads1 g1 m1 r1
   obtain ⟨a,xs,rfl,h0,h1,n,rd⟩:=r1
   refine ⟨a,rfl,⟨xs,SqL.of h1⟩,q _ H1 ads1 g1 m1 (rit_list fun i ads2 H2 M2 g2 m2 o e=>?_)⟩
   exact ⟨ds,xs,(zqag e).symm,g2.rds _ _ rd,SqL.of (g2.kept a _ n h1)⟩
  | d x =>
   cases x with
   | tup ds =>
    have q:OkIt X.K ads H R (.ok (.items ds) M1):=q
    refine pi_tup he pins s σ H R I ⟨ads,M,ρ,sr,?_⟩
    rw [hq]
    intro v H1 ads1 g1 m1 r1
    have r1:RD X.K ads1 H1 (.tup ds) v:=r1
    unfold RD at r1
    obtain ⟨a,xs,rfl,h1,rd⟩:=r1
    exact ⟨a,rfl,⟨xs,SqT.of h1⟩,q _ H1 ads1 g1 m1 (rit_tup h1 rd)⟩
   | ls ds =>
    have q:OkIt X.K ads H R (.ok (.items ds) M1):=q
    refine pi_list he pins s σ H R I ⟨ads,M,ρ,sr,?_⟩
    rw [hq]
    intro v H1 ads1 g1 m1 r1
    have r1:RD X.K ads1 H1 (.ls ds) v:=r1
    unfold RD at r1
    obtain ⟨a,xs,rfl,h1,rd⟩:=r1
    refine ⟨a,rfl,⟨xs,h1.sq⟩,q _ H1 ads1 g1 m1 (rit_list fun i ads2 H2 M2 g2 m2 o e=>?_)⟩
    exact ⟨ds,xs,(zqag e).symm,g2.rds _ _ rd,(g2.scr h1).sq⟩
   | adr n =>
    have q:OkIt X.K ads H R (if (seqW M1 (.d (.adr n))).isSome then .ok (.at n) M1 else .stuck):=q
    split at q
    ·rename_i hs
     obtain ⟨p,hp⟩:=zqbt.mp hs
     refine pi_list he pins s σ H R I ⟨ads,M,ρ,sr,?_⟩
     rw [hq]
     intro v H1 ads1 g1 m1 r1
     obtain ⟨a,ea,sq⟩:=at_list m1 r1 hp
     subst ea
     exact ⟨a,rfl,sq,q _ H1 ads1 g1 m1 (rit_list fun i ads2 H2 M2 g2 m2 o e=>at_items r1 g2 m2 e)⟩
    ·exact q.elim
   | non=>exact q.elim
   | bl _=>exact q.elim
   | int _=>exact q.elim
   | str _=>exact q.elim
 | err _ _=>rw [hq] at q;exact pi_tup he pins s σ H R I ⟨ads,M,ρ,sr,by rw [hq];exact q⟩
 | stuck=>rw [hq] at q;exact q.elim
theorem src_rng1 {c:C} {a:Expr} {x:Str} {p pos:Pos} (g:Good kk X cc G) (hx:x = "range") (hg:glob cc x=true) (hs:notStar a=true) (he:PE X a (tE X.K (ev G c))):PI X tg (.Call (.Name x p) [a] [] pos) (tI X.K (evSrc G .rng1 [c])):=by
 have hgl:=g.gl hg
 have hm:X.mg x=none:=g.blt x (by subst hx;show _∈bltNames;decide +kernel)
 subst hx
 refine piI (pi_range1 hgl hm (pa_cons he pa_nil (star_of hs [] X.env)) (star_of hs [] X.env)) fun σ H R q=>?_
 obtain ⟨ads,M,ρ,s,q⟩:=q
 simp only [evSrc,evWs] at q
 refine ⟨ads,M,ρ,s,?_⟩
 cases hq:ev G c ρ M with
 | ok w M1 =>
  rw [hq] at q
  have q:OkIt X.K ads H R (srcW .rng1 [w] M1):=q
  intro v H1 ads1 g1 m1 r1
  rcases w with ⟨_|_ | j | _|_|_⟩|_ <;> first | exact q.elim | skip
  have q:OkIt X.K ads H R (if -(2 ^ 62)<=j/\j < 2 ^ 62 then .ok (.rng 0 j.toNat) M1 else .stuck):=q
  split at q
  ·rename_i hj
   exact ⟨j,by rw [rw_int r1],hj.1,hj.2,q _ H1 ads1 g1 m1 (rit_rng _ _)⟩
  ·exact q.elim
 | err _ _=>rw [hq] at q;exact q
 | stuck=>rw [hq] at q;exact q.elim
end
end
section
variable [EX]
def tG (K:PySem.W.Frag) (tg:List Nat):TG:=fun v σ H Q=>∃ ads M ρ d,SR K ads M ρ σ H/\RD K ads H d v/\∃ ρ',bindT tg d ρ=some ρ'/\∀ σ',SR K ads M ρ' σ' H->Q σ' H
theorem SR.set {K:PySem.W.Frag} {ads:List Addr} {M:Mem} {ρ:En} {σ:L2.St} {H:Hp} (s:SR K ads M ρ σ H) (i:Nat) {d:D} {v:V} (r:RD K ads H d v):SR K ads M (ρ.set i (some d)) (σ.set i (some v)) H :=
 ⟨s.mem,fun j d' e=>by
  by_cases h:i=j
  ·subst h
   have hl:i < ρ.length:=by
    have:=(zqak.mp e).1
    simpa using this
   rw [zqbf hl] at e
   cases e
   exact ⟨v,by rw [zqbf (by rw [<- s.ln];exact hl)],r⟩
  ·rw [zqbe h] at e ⊢
   exact s.en j d' e,by simp [s.ln]⟩
def gN:List Nat->TGs
 | []=>gNil
 | i::r=>gCons (gName i) (gN r)
section
variable {kk:Nat} {X:Cx} {cc:CC} {G:Fns}
theorem GoodH.nm (g:GoodH kk X cc G) {x:Str} (h:(cc.names.lookup x == some .local || cc.names.lookup x == some .cell)=true):Loc X.env.scope x/\(X.fn x=true\/X.env.scope.names.lookup x=some .local):=by
 rw [zqc2] at h
 rcases h with h | h
 ·have h:=eq_of_beq h
  exact ⟨.inl (g.kinds x _ h),.inr (g.kinds x _ h)⟩
 ·have h:=eq_of_beq h
  exact ⟨.inr (g.kinds x _ h),.inl (g.fnc x h)⟩
theorem g_names (g:Good kk X cc G):∀ (tg:List Nat) (es:List Expr),chkNames cc tg es=true->PGs X es (gN tg)/\es.length=tg.length/\(assignEach es X.env).length=tg.length/\(assignEach es X.env).findIdx? (·.1)=none
 | [],[],_=>⟨pgs_nil,rfl,rfl,rfl⟩
 | [],_::_,h=>by cases h
 | _::_,[],h=>by cases h
 | i::tg,e::es,h=>by
  obtain ⟨h,h3⟩:=(zqab _ _).mp h
  obtain ⟨ih,l1,l2,l3⟩:=g_names g tg es h3
  refine onName_el (P:=fun e=>PGs X (e::es) (gN (i::tg))/\(e::es).length=(i::tg).length/\(assignEach (e::es) X.env).length=(i::tg).length/\(assignEach (e::es) X.env).findIdx? (·.1)=none) h fun x p h=>?_
  obtain ⟨h1,h2⟩:=(zqab _ _).mp h
  obtain ⟨n1,n2⟩:=g.nm h2
  refine ⟨pgs_cons (pg_name (by rw [g.N];exact g.nd) (by rw [g.N];exact eq_of_beq h1) n1 n2) ih,by simp [l1],?_,?_⟩
  ·show (assignEach es X.env).length+1=_
   rw [l2];rfl
  ·show List.findIdx? _ ((false,_)::assignEach es X.env)=none
   rw [List.findIdx?_cons]
   simp only [zqcj,if_false]
   rw [l3];rfl
theorem gN_of {K:PySem.W.Frag} {ads:List Addr} {M:Mem} {H:Hp} {Q:L2.St->Hp->Prop} {ρ':En} (hQ:∀ σ',SR K ads M ρ' σ' H->Q σ' H):∀ (tg:List Nat) (ds:List D) (xs:List V) (ρ:En) (σ:L2.St),SR K ads M ρ σ H->RDs K ads H ds xs->setAll tg ds ρ=some ρ'->gN tg xs σ H Q
 | [],[],xs,ρ,σ,s,r,e=>by
  unfold RDs at r
  subst r
  cases e
  exact ⟨rfl,hQ σ s⟩
 | [],_::_,_,_,_,_,_,e=>by cases e
 | _::_,[],_,_,_,_,_,e=>by cases e
 | i::tg,d::ds,xs,ρ,σ,s,r,e=>by
  unfold RDs at r
  obtain ⟨x,r',rfl,h1,h2⟩:=r
  exact ⟨x,r',rfl,gN_of hQ tg ds r' _ _ (s.set i h1) h2 e⟩
theorem setAll_len:∀ (tg:List Nat) (ds:List D) (ρ ρ':En),setAll tg ds ρ=some ρ'->ds.length=tg.length
 | [],[],_,_,_=>rfl
 | [],_::_,_,_,e=>by cases e
 | _::_,[],_,_,e=>by cases e
 | i::tg,d::ds,ρ,ρ',e=>by simp [setAll_len tg ds _ ρ' e]
theorem g_target1 (g:GoodH kk X cc G) {i:Nat} {t:Expr} (h:chkTg cc [i] t=true):PG X t (tG X.K [i]):=by
 refine onName_el (P:=fun t=>PG X t _) ((zqab _ _).mp h).1 fun x p h=>?_
 obtain ⟨h1,h2⟩:=(zqab _ _).mp h
 obtain ⟨n1,n2⟩:=g.nm h2
 intro pins s σ H v u Q I r q
 refine pg_name (by rw [g.N];exact g.nd) (by rw [g.N];exact eq_of_beq h1) n1 n2 pins s σ H v u Q I r ?_
 obtain ⟨ads,M,ρ,d,sr,rd,ρ',e,hQ⟩:=q
 cases e
 exact hQ _ (sr.set i rd)
theorem g_target (g:Good kk X cc G) {tg:List Nat} {t:Expr} (h:chkTg cc tg t=true):PG X t (tG X.K tg):=by
 rcases tg with _|⟨i,_|⟨j,tl⟩⟩
 ·exact absurd h zqaa
 ·refine onName_el (P:=fun t=>PG X t _) ((zqab _ _).mp h).1 fun x p h=>?_
  obtain ⟨h1,h2⟩:=(zqab _ _).mp h
  obtain ⟨n1,n2⟩:=g.nm h2
  intro pins s σ H v u Q I r q
  refine pg_name (by rw [g.N];exact g.nd) (by rw [g.N];exact eq_of_beq h1) n1 n2 pins s σ H v u Q I r ?_
  obtain ⟨ads,M,ρ,d,sr,rd,ρ',e,hQ⟩:=q
  cases e
  exact hQ _ (sr.set i rd)
 ·refine onTuple_el (P:=fun t=>PG X t _) h fun es kq p h=>?_
  obtain ⟨a,l1,l2,l3⟩:=g_names g (i::j::tl) es ((zqab _ _).mp h).1
  intro pins s σ H v u Q I r q
  refine pg_tup (pos:=p) (k:=kq) g.calm a l2 l3 pins s σ H v u Q I r ?_
  obtain ⟨ads,M,ρ,d,sr,rd,ρ',e,hQ⟩:=q
  have e':∃ ds,d=.tup ds/\setAll (i::j::tl) ds ρ=some ρ':=by
   cases d <;> first | cases e | exact ⟨_,rfl,e⟩
  obtain ⟨ds,rfl,e2⟩:=e'
  unfold RD at rd
  obtain ⟨b,xs,rfl,hb,rd⟩:=rd
  exact ⟨b,xs,rfl,SqT.of hb,by rw [<- rd.len,setAll_len _ ds ρ ρ' e2],gN_of hQ _ ds xs ρ σ sr rd e2⟩
end
theorem closure_eq {env : Env} : ∀ (names : List (Str × NameKind)) (acc : List (Str × Addr)), (∀ y ∈ names, y.2 = .free -> ∃ c, env.cells.lookup y.1 = some c) -> (∀ x c, acc.lookup x = some c -> env.cells.lookup x = some c) ->
    ∃ cl,(forIn names acc fun (x:Str×NameKind) (r:List (Str×Addr))=>(match x with | (name,kind)=>if (kind == NameKind.free)=true then do let a <- cellOf env name;pure (ForInStep.yield ((name,a)::r)) else pure (ForInStep.yield r):Sem (ForInStep (List (Str×Addr)))))=pure cl /\
      (∀ x c,cl.lookup x=some c->env.cells.lookup x=some c)/\(∀ x,(acc.lookup x).isSome=true->(cl.lookup x).isSome=true)/\∀ y∈names,y.2=.free->(cl.lookup y.1).isSome=true
  | [],acc,_,h=>⟨acc,rfl,h,fun _ q=>q,fun y hy=>by cases hy⟩
  | (n,k)::r,acc,hn,h=>by
    by_cases hk:k=.free
    · subst hk
      obtain ⟨c,hc⟩:=hn (n,.free) zqar rfl
      have h2:∀ x c',((n,c)::acc).lookup x=some c'->env.cells.lookup x=some c':=fun x c' e=>by
        rw [zqac] at e
        by_cases hx:x=n
        · subst hx;simp at e;rw [<- e];exact hc
        · have:(x == n)=false:=zqb2.mpr hx
          rw [this] at e;exact h x c' e
      obtain ⟨cl,e1,e2,e3,e4⟩:=closure_eq r ((n,c)::acc) (fun y hy=>hn y (zqai _ hy)) h2
      refine ⟨cl,?_,e2,fun x q=>e3 x ?_,fun y hy hf=>?_⟩
      · rw [List.forIn_cons]
        have:cellOf env n=pure c:=by unfold cellOf;rw [hc]
        simp only [beq_self_eq_true,zqcf,this]
        exact e1
      · rw [zqac]
        by_cases hx:(x == n)=true
        · simp [hx]
        · simp only [hx];exact q
      · rcases zqaq.mp hy with z | z
        · subst z;exact e3 _ (by simp [zqac])
        · exact e4 y z hf
    · obtain ⟨cl,e1,e2,e3,e4⟩:=closure_eq r acc (fun y hy=>hn y (zqai _ hy)) h
      refine ⟨cl,?_,e2,e3,fun y hy hf=>?_⟩
      · rw [List.forIn_cons]
        have:(k == NameKind.free)=false:=by simpa using hk
        simp only [this,zqcj,if_false]
        exact e1
      · rcases zqaq.mp hy with z | z
        · subst z;exact absurd hf hk
        · exact e4 y z hf
theorem clos_of {X:Cx} {sc:Scope} (h:∀ y∈sc.names,y.2=.free->∃ c,X.env.cells.lookup y.1=some c):∃ cl,Clos X sc cl:=by
 obtain ⟨cl,e1,e2,e3,e4⟩:=closure_eq sc.names [] h (fun x c e=>by cases e)
 refine ⟨cl,?_,e2,fun x hx=>zqbt.mp (e4 (x,.free) (zqam hx) rfl)⟩
 unfold closureFor
 exact zqb6 (fun m=>m >>= fun cs=>pure cs) e1
section
variable {kk:Nat} {X:Cx} {cc:CC} {G:Fns}
theorem scOk_of {sc:Scope} (h:scOk cc sc=true):sc.kind=.function/\(∀ y∈sc.names,y.2=.cell->sc.names.lookup y.1=some .cell)/\(∀ y∈sc.names,y.2=.local->sc.names.lookup y.1=some .local)/\(blockN sc).Nodup/\∀ y∈sc.names,y.2=.free->sc.names.lookup y.1=some .free/\(cc.names.lookup y.1=some .cell\/cc.names.lookup y.1=some .free):=by
 unfold scOk at h
 simp only [zqab,zqa8,zqa5,bne_iff_ne,ne_eq,zqbu,zqc2] at h
 obtain ⟨⟨⟨⟨h1,h2⟩,h3⟩,h4⟩,h5⟩:=h
 refine ⟨h1,fun y hy hk=>?_,fun y hy hk=>?_,h4,fun y hy hk=>?_⟩
 ·rcases h2 y hy with z | z
  ·exact absurd hk z
  ·exact z
 ·rcases h3 y hy with z | z
  ·exact absurd hk z
  ·exact z
 ·rcases h5 y hy with z | z
  ·exact absurd hk z
  ·exact z
theorem Good.block (g:Good kk X cc G) {sc:Scope} (h:scOk cc sc=true) {cl:List (Str×Addr)} (C:Addr) (s:Shared) (H:Hp) (fp:List Addr):@Good never kk (X.block sc cl C (blockN sc) s H fp []) (blk cc sc) G:=by
 obtain ⟨h1,h2,h3,h4,h5⟩:=scOk_of h
 refine @Good.mk never kk (X.block sc cl C (blockN sc) s H fp []) (blk cc sc) G ⟨g.rh,rfl,h4,(fun x k e=>?_),(fun x e=>?_),g.blt,g.gls,(fun _ _ _ z=>nomatch z),(fun _ _ _ z=>nomatch z),(fun _ _ _ _ z=>nomatch z)⟩ g.calm g.room g.fns ⟨E0,(by rintro _ _ _ _ _ _ _ ⟨_,_,_,_,_,_,_,_,_,_,_,_,_,h⟩;exact h.elim),fun h=>h.elim⟩
 ·have e:sc.names.lookup x=some k:=e
  have r:=lookup_relabel (env:=X.env) e
  have kd:(X.block sc cl C (blockN sc) s H fp []).env.kindOf x=some (if (k == NameKind.free && X.env.scope.kind == .function && X.env.kindOf x == some .cell) then .cell else k):=r
  cases k with
  | «local»=>exact kd
  | cell=>exact kd
  | free =>
   show _\/_
   rw [kd]
   split
   ·exact .inl rfl
   ·exact .inr rfl
  | globalExplicit=>exact True.intro
  | globalImplicit=>exact kd
 ·have e:sc.names.lookup x=some .cell:=e
  show (sc.names.lookup x == some .cell)=true
  rw [e]
  rfl
theorem cap_ok (g:Good kk X cc G) {sc:Scope} (h:scOk cc sc=true):CapOk X sc (blockN sc) (capOf cc sc):=by
 obtain ⟨h1,h2,h3,h4,h5⟩:=scOk_of h
 refine ⟨by simp [capOf],fun i j x e1 e2=>?_⟩
 unfold capOf at e1
 rw [zqbg,e2] at e1
 simp only [Option.map_some,zqbi] at e1
 split at e1
 ·rename_i hf
  have hf:sc.names.lookup x=some .free:=by simpa using hf
  obtain ⟨_,ho⟩:=h5 (x,.free) (zqam hf) rfl
  refine ⟨?_,hf,?_⟩
  ·rw [g.N]
   obtain ⟨hj,hx,_⟩:=List.findIdx?_eq_some_iff_getElem.mp e1
   rw [zqa6 hj]
   have:cc.N[j]=x:=by simpa using hx
   rw [this]
  ·rcases ho with ho | ho
   ·exact .inl (g.kinds x _ ho)
   ·exact g.kinds x _ ho
 ·cases e1
theorem capEn_sr {K:PySem.W.Frag} {ads:List Addr} {M:Mem} {ρ:En} {σ:L2.St} {H:Hp} (s:SR K ads M ρ σ H) (cap:List (Option Nat)):SR K ads M (capEn cap ρ) (capσ cap σ) H:=by
 refine ⟨s.mem,fun i d e=>?_,by simp [capEn,capσ]⟩
 unfold capEn at e
 unfold capσ
 rw [zqbg] at e ⊢
 cases q:cap[i]? with
 | none=>rw [q] at e;cases e
 | some o =>
  rw [q] at e
  cases o with
  | none=>cases e
  | some j =>
   have e:(ρ[j]?).join=some d:=zqag e
   have e2:ρ[j]?=some (some d):=by
    cases r:ρ[j]? with
    | none=>rw [r] at e;cases e
    | some z=>rw [r] at e;cases z with
     | none=>cases e
     | some y=>cases e;rfl
   obtain ⟨v,ev,rv⟩:=s.en j d e2
   exact ⟨v,by simp [ev],rv⟩
theorem Grow.upd_new {ads ads':List Addr} {H H':Hp} {D:Addr} {o:HO} (g:Grow ads ads' H H') (h:H D=none):Grow ads ads' H (upd H' D o) :=
 ⟨g.pre,g.new,fun b x n e=>by rw [upd_ne (fun z=>by subst z;rw [h] at e;cases e)];exact g.kept b x n e,fun b x e=>by rw [upd_ne (fun z=>by subst z;rw [h] at e;cases e)];exact g.tups b x e,
  fun b x u e=>by rw [upd_ne (fun z=>by subst z;rw [h] at e;cases e)];exact g.frz b x u e⟩
theorem comp_key {K:PySem.W.Frag} {G:Fns} {it:Ev.It} {J:L2.It} {tg:List Nat} {cond:Option Tst} {elt:C} {cap:List (Option Nat)} {ads:List Addr} {M:Mem} {ρ:En} {σ:L2.St} {H:Hp} {Q:VK} {f:Nat} (s:SR K ads M ρ σ H) (hJ:RIt K ads H it J) (q:OkW K ads H Q (compGo (fun τ M=>evCond G cond τ M) (fun τ M=>(ev G elt τ M).bind own) it tg f 0 (capEn cap ρ) M [])):tCompL cap (tG K tg) (cond.map fun t=>@tTs never K (evT G t)) (@tE never K (ev G elt)) σ J H Q:=by
  intro D hD
  have hDn:=s.mem.fresh hD
  refine ⟨fun i m τ H' ys=>∃ ads' M' τρ acc,SR K ads' M' τρ τ H'/\Grow ads ads' H H'/\D∉ads'/\H' D=some (.lst ys)/\RDs K ads' H' acc ys/\OkW K ads H Q (compGo (fun τ M=>evCond G cond τ M) (fun τ M=>(ev G elt τ M).bind own) it tg m i τρ M' acc),
    ⟨f,ads,M,capEn cap ρ,[],?_,(Grow.refl _ _).upd_new hD,hDn,upd_same,(by unfold RDs;rfl),q⟩,?_⟩
  · have g0:Grow ads ads H (upd H D (.lst [])):=Grow.new1 s.mem hD
    exact (capEn_sr s cap).grow g0 (s.mem.new1 hD)
  rintro i m τ H' ys ⟨ads',M',τρ,acc,s',g',dn,hl,ra,q'⟩
  refine ⟨hl,?_⟩
  obtain ⟨r1,r2⟩:=hJ i ads' H' M' g' s'.mem
  have stop:itemAt M' i it=some none->OkW K ads H Q (.ok (.lv acc) M')->(J.stop i H'/\Q (.ref D) H'):=fun hi q' =>
    ⟨r1 hi,q' (.ref D) H' ads' g' s'.mem ⟨D,ys,rfl,hD,hl,dn,ra⟩⟩
  cases m with
  | zero =>
    unfold compGo at q'
    split at q'
    · rename_i hi
      exact .inl (stop hi q')
    · exact q'.elim
  | succ m =>
    unfold compGo at q'
    split at q'
    · rename_i hi
      exact .inl (stop hi q')
    · rename_i d hi
      obtain ⟨go,yl⟩:=r2 d hi
      cases hb:bindT tg d τρ with
      | none=>rw [hb] at q';exact q'.elim
      | some τ1 =>
        rw [hb] at q'
        dsimp only at q'
        split at q'
        · rename_i hz
          refine .inr ⟨go,by rw [<- ra.len];exact hz,fun x H2 y=>?_⟩
          obtain ⟨g2,m2,rd⟩:=yl x H2 y
          have hl2:H2 D=some (.lst ys):=g2.kept D _ dn hl
          refine ⟨ads',M',τρ,d,s'.grow g2 m2,rd,τ1,hb,fun τ2 s2=>?_⟩
          have rest : ∀ b M3 H3 ads3, Grow ads' ads3 H2 H3 -> MRel K ads3 H3 M3 -> OkW K ads H Q (if b = true then ((ev G elt τ1 M3).bind own).b0 fun x M => compGo (fun τ M => evCond G cond τ M) (fun τ M => (ev G elt τ M).bind own) it tg m (i + 1) τ1 M (acc ++ [x]) else compGo (fun τ M => evCond G cond τ M) (fun τ M => (ev G elt τ M).bind own) it tg m (i + 1) τ1 M3 acc) ->
              (if b=true then @tE never K (ev G elt) τ2 H3 fun v H4=>H4 D=some (.lst ys)/\∃ m',m' < m+1/\∃ ads' M' τρ acc,SR K ads' M' τρ τ2 (upd H4 D (.lst (ys++[v])))/\Grow ads ads' H (upd H4 D (.lst (ys++[v])))/\D∉ads'/\(upd H4 D (.lst (ys++[v]))) D=some (.lst (ys++[v]))/\RDs K ads' (upd H4 D (.lst (ys++[v]))) acc (ys++[v])/\OkW K ads H Q (compGo (fun τ M=>evCond G cond τ M) (fun τ M=>(ev G elt τ M).bind own) it tg m' (i+1) τρ M' acc)
               else ∃ m',m' < m+1/\∃ ads' M' τρ acc,SR K ads' M' τρ τ2 H3/\Grow ads ads' H H3/\D∉ads'/\H3 D=some (.lst ys)/\RDs K ads' H3 acc ys/\OkW K ads H Q (compGo (fun τ M=>evCond G cond τ M) (fun τ M=>(ev G elt τ M).bind own) it tg m' (i+1) τρ M' acc)):=by
            intro b M3 H3 ads3 g3 m3 q3
            have dn3:D∉ads3:=g3.notin dn hl2
            have hl3:H3 D=some (.lst ys):=g3.kept D _ dn hl2
            have s3:=s2.grow g3 m3
            have gg:=(g'.trans g2).trans g3
            have ra3:=(g2.trans g3).rds _ _ ra
            cases b with
            | false =>
              rw [zqax (by simp)] at q3 ⊢
              exact ⟨m,zqcu _,ads3,M3,τ1,acc,s3,gg,dn3,hl3,ra3,q3⟩
            | true =>
              rw [zqav rfl] at q3 ⊢
              refine ⟨ads3,M3,τ1,s3,?_⟩
              cases he:ev G elt τ1 M3 with
              | ok w M4 =>
                rw [he] at q3
                intro v H4 ads4 g4 m4 r4
                have q3:OkW K ads H Q ((own w M4).b0 fun x M=>compGo (fun τ M=>evCond G cond τ M) (fun τ M=>(ev G elt τ M).bind own) it tg m (i+1) τ1 M (acc++[x])):=q3
                have hl4:H4 D=some (.lst ys):=g4.kept D _ dn3 hl3
                refine ⟨hl4,m,zqcu _,?_⟩
                cases ho:own w M4 with
                | ok dd M5 =>
                  rw [ho] at q3
                  obtain ⟨ads5,g5,m5,rd5⟩:=own_ok s3.mem g4 m4 r4 ho
                  have dn5:D∉ads5:=g5.notin dn3 hl3
                  have tk:TF H4 (upd H4 D (.lst (ys++[v]))):=⟨fun b xs e=>by rw [upd_ne (fun z=>by subst z;rw [hl4] at e;cases e)];exact e,fun b o u e=>by rw [upd_ne (fun z=>by subst z;rw [hl4] at e;cases e)];exact e,fun b gs e=>by rw [upd_ne (fun z=>by subst z;rw [hl4] at e;cases e)];exact e⟩
                  have m6:MRel K ads5 (upd H4 D (.lst (ys++[v]))) M5:=m5.keep tk fun a ha=>upd_ne (fun z=>by subst z;exact dn5 ha)
                  have en6:REn K ads5 (upd H4 D (.lst (ys++[v]))) τ1 τ2:=fun j d e=>by
                    obtain ⟨u,e1,r⟩:=g5.ren s3.en j d e
                    exact ⟨u,e1,RD.keep tk _ _ r⟩
                  exact ⟨ads5,M5,τ1,acc++[dd],⟨m6,en6,s3.ln⟩,(gg.trans g5).upd_new hD,dn5,upd_same,RDs.keep tk _ _ ((g5.rds _ _ ra3).app (.one rd5)),q3⟩
                | err _ _=>cases w <;> cases ho
                | stuck=>cases w <;> cases ho
              | err _ _=>rw [he] at q3;exact q3
              | stuck=>rw [he] at q3;exact q3
          cases cond with
          | none =>
            exact rest true M' H2 ads' (Grow.refl _ _) m2 q'
          | some t =>
            show @tTs never K (evT G t) τ2 H2 _
            refine ⟨ads',M',τ1,s2,?_⟩
            have q':OkW K ads H Q ((evT G t τ1 M').b0 fun b M=>if b=true then ((ev G elt τ1 M).bind own).b0 fun x M=>compGo (fun τ M=>evCond G (some t) τ M) (fun τ M=>(ev G elt τ M).bind own) it tg m (i+1) τ1 M (acc++[x]) else compGo (fun τ M=>evCond G (some t) τ M) (fun τ M=>(ev G elt τ M).bind own) it tg m (i+1) τ1 M acc):=q'
            cases ht:evT G t τ1 M' with
            | ok b M3 =>
              rw [ht] at q'
              intro H3 ads3 g3 m3
              exact rest b M3 H3 ads3 g3 m3 q'
            | err _ _=>rw [ht] at q';exact q'
            | stuck=>rw [ht] at q';exact q'
        · exact q'.elim
    · exact q'.elim
end
end
section
variable [EX]
variable {kk:Nat} {G:Fns}
theorem foldSet {e:Expr} (h:notSet e=true) (env:Env):∀ x,foldedSetIterable e env x=pure x:=by
 intro x
 cases e <;> first | rfl | exact absurd (show false=true from h) zqaa
theorem s_comp {X:Cx} {cc:CC} {k:SK} {src:List C} {tg:List Nat} {cond:Option Tst} {elt:C} {cap:List (Option Nat)} {el t iter:Expr} {ifs:List Expr} {sc:Scope} {pos:Pos} (g:Good kk X cc G) (hsc:scOk cc sc=true) (hcap:cap=capOf cc sc) (hns:notSet iter=true) (hsrc:PI X t iter (tI X.K (evSrc G k src))) (htg:chkTg (blk cc sc) tg t=true) (hcond:chkC (blk cc sc) cond ifs=true) (ihc:∀ t,cond=some t->∀ X':Cx,X'.K=X.K->@Good never kk X' (blk cc sc) G->∀ e,chkT (blk cc sc) t e=true->PT X' e (@tTs never X'.K (evT G t))) (ihe:∀ X':Cx,X'.K=X.K->@Good never kk X' (blk cc sc) G->PE X' el (@tE never X'.K (ev G elt))):∃ (wi:TI) (cl:(X:Cx)->Prop),True/\PE X (.ListComp el [⟨t,iter,ifs,0⟩] sc pos) (tE X.K (ev G (.comp k src tg cond elt cap))):=by
 refine ⟨fun _ _ _=>True,fun _=>True,True.intro,?_⟩
 intro pins s σ H Q I q
 obtain ⟨h1,h2,h3,h4,h5⟩:=scOk_of hsc
 obtain ⟨cl,hcl⟩:=clos_of (X:=X) (sc:=sc) fun y hy hf=>by
  obtain ⟨_,ho⟩:=h5 y hy hf
  refine I.ok.has y.1 ?_
  rcases ho with ho | ho
  ·exact .inl (g.kinds _ _ ho)
  ·exact g.kinds _ _ ho
 have ck:CompOk X sc (blockN sc) cap cl t el ifs (tG X.K tg) (cond.map fun t=>@tTs never X.K (evT G t)) (@tE never X.K (ev G elt)):=by
  refine ⟨h1,h2,h3,hcl,hcap ▸ cap_ok g hsc,fun C s H fp=>(by have gb:=g.block (cl:=cl) hsc C s H fp;letI:=never;exact g_target gb htg),?_,fun C s H fp=>ihe _ rfl (g.block hsc C s H fp)⟩
  cases cond with
  | none =>
   cases ifs with
   | nil=>rfl
   | cons _ _=>cases hcond
  | some tt =>
   cases ifs with
   | nil=>cases hcond
   | cons e es =>
    cases es with
    | cons _ _=>cases hcond
    | nil=>exact ⟨e,rfl,fun C s H fp=>ihc tt rfl (X.block sc cl C (blockN sc) s H fp []) rfl (g.block hsc C s H fp) e hcond⟩
 refine pe_comp g.calm hsrc ck (foldSet hns X.env) pins s σ H Q I ?_
 obtain ⟨ads,M,ρ,sr,q⟩:=q
 refine ⟨ads,M,ρ,sr,?_⟩
 have q:OkW X.K ads H Q ((evSrc G k src ρ M).bind fun it M=>compGo (fun τ M=>evCond G cond τ M) (fun τ M=>(ev G elt τ M).bind own) it tg (itLen M it) 0 (capEn cap ρ) M []):=by
  simp only [ev_comp] at q
  unfold evSrc
  cases hw:evWs G src ρ M with
  | ok ws M1=>rw [hw] at q;exact q
  | err _ _=>rw [hw] at q;exact q
  | stuck=>rw [hw] at q;exact q
 cases hs:evSrc G k src ρ M with
 | ok it M1 =>
  rw [hs] at q
  intro J H1 ads1 g1 m1 rj
  exact comp_key (sr.grow g1 m1) rj (OkW.shift (o:=compGo (fun τ M=>evCond G cond τ M) (fun τ M=>(ev G elt τ M).bind own) it tg (itLen M1 it) 0 (capEn cap ρ) M1 []) q g1 sr.mem m1)
 | err _ _=>rw [hs] at q;exact q
 | stuck=>rw [hs] at q;exact q
end
theorem t_pl [EX] {X:Cx} {cc:CC} {G:Fns} {c:C} {e:Expr} (h:(plainTest e && chk cc c e)=true) (k:chk cc c e=true->PE X e (tE X.K (ev G c))):PT X e (tTs X.K (evT G (.val c))):=t_plain ((zqab _ _).mp h).1 (k ((zqab _ _).mp h).2)
mutual
theorem ok_e {kk:Nat} {G:Fns}:∀ (c:C) (ex:EX) (cc:CC) (X:Cx) (e:Expr),@Good ex kk X cc G->chk cc c e=true->PE X e (@tE ex X.K (ev G c))
 | .var i,ex,cc,X,e,g,h=>s_var g.toGoodH h
 | .cst d,ex,cc,X,e,g,h=>s_cst h
 | .bin op a b,ex,cc,X,e,g,h=>s_bin (fun e h=>ok_e a ex cc X e g h) (fun e h=>ok_e b ex cc X e g h) h
 | .cmp op a b,ex,cc,X,e,g,h=>(s_cmp g.toGoodH (fun e h=>ok_e a ex cc X e g h) (fun e h=>ok_e b ex cc X e g h) h).1
 | .chain o1 o2 a b c,ex,cc,X,e,g,h=>(s_chain g.toGoodH (fun e h=>ok_e a ex cc X e g h) (fun e h=>ok_e b ex cc X e g h) (fun e h=>ok_e c ex cc X e g h) h).1
 | .conj cs,_,_,_,_,_,h=>absurd (show false=true from h) zqaa
 | .disj cs,_,_,_,_,_,h=>absurd (show false=true from h) zqaa
 | .neg a,ex,cc,X,e,g,h=>s_neg (fun e h=>ok_e a ex cc X e g h) h
 | .ite t a b,ex,cc,X,e,g,h=>onIfExp_el (P:=fun e=>PE X e _) h fun c x y pos h=>by
  simp only [zqab] at h
  exact s_ite (ok_t t ex cc X c g h.1.1) (ok_e a ex cc X x g h.1.2) (ok_e b ex cc X y g h.2)
 | .tup cs,ex,cc,X,e,g,h=>s_tup (fun es h=>ok_ds cs ex cc X es g h) h
 | .lst cs,ex,cc,X,e,g,h=>s_lst (fun es h=>ok_ds cs ex cc X es g h) h
 | .sub a b,ex,cc,X,e,g,h=>onSubscript_el (P:=fun e=>PE X e _) h fun e i pos h=>by
  simp only [zqab] at h
  exact s_sub g.toGoodH h.1.1 (ok_e a ex cc X e g h.1.2) (ok_e b ex cc X i g h.2)
 | .call f cs,ex,cc,X,e,g,h=>onCall_el (P:=fun e=>PE X e _) h fun fe args kws pos h=>onName_el (P:=fun fe=>PE X (.Call fe args kws pos) _) h fun x p h=>by
  rcases args with _|⟨e,es⟩ <;> first | exact absurd h zqaa | skip
  cases kws <;> first | exact absurd h zqaa | skip
  simp only [zqab,zqa8] at h
  exact s_call g h.1.1.1 h.1.1.2 h.1.2 h.2 (ok_ds cs ex cc X (e::es) g h.2)
 | .xf a f,ex,cc,X,e,g,h=>onAttribute_el (P:=fun e=>PE X e _) h fun e n pos h=>by
  simp only [zqab,zqa8] at h
  obtain ⟨⟨rfl,h1⟩,h2⟩:=h
  exact onName_el (P:=fun e=>chk cc a e=true->PE X (.Attribute e n pos) _) h1 (fun x p _ h2=>s_xf (ok_e a ex cc X _ g h2)) h2
 | .isx a k tb,ex,cc,X,e,g,h=>onCall_el (P:=fun e=>PE X e _) h fun fe args kws pos h=>onName_el (P:=fun fe=>PE X (.Call fe args kws pos) _) h fun x p h=>by
  rcases args with _|⟨u,_|⟨v,_|⟨_,_⟩⟩⟩ <;> first | exact absurd h zqaa | skip
  cases kws <;> first | exact absurd h zqaa | skip
  simp only [zqab] at h
  obtain ⟨⟨⟨⟨⟨h1,h2⟩,h3⟩,h4⟩,h5⟩,h6⟩:=h
  exact s_isx g.toGoodH (eq_of_beq h1) h2 h3 (ok_e a ex cc X u g h4) h5 h6
 | .hcall f cs,ex,cc,X,e,g,h=>onCall_el (P:=fun e=>PE X e _) h fun fe args kws pos h=>onName_el (P:=fun fe=>PE X (.Call fe args kws pos) _) h fun x p h=>by
  rcases args with _|⟨e,es⟩ <;> first | exact absurd h zqaa | skip
  cases kws <;> first | exact absurd h zqaa | skip
  simp only [zqab,zqa8] at h
  exact s_hcall g.toGoodH h.1.1.1.1 (List.contains_iff_mem.mp h.1.1.1.2) h.1.1.2 h.1.2 h.2 (ok_ds cs ex cc X (e::es) g h.2)
 | .bi b cs,ex,cc,X,e,g,h=>onCall_el (P:=fun e=>PE X e _) h fun fe args kws pos h0=>onName_el (P:=fun fe=>PE X (.Call fe args kws pos) _) h0 fun x p h=>by
  clear h0
  replace h:=(zqab _ _).mp h
  have h1:=h.1
  replace h:=h.2
  simp only [zqab,zqbw] at h1
  obtain ⟨⟨rfl,hx⟩,hg⟩:=h1
  cases hb:isiTy b with
  | none =>
   rw [hb] at h
   rcases args with _|⟨e,es⟩ <;> first | exact absurd h zqaa | skip
   replace h:=(zqab _ _).mp h
   have hst:notStar e=true/\chks cc cs.tail es=true:=by
    cases cs with
    | nil=>exact absurd h.2 zqaa
    | cons c cs =>
     have h':(notStar e && chk cc c e && chks cc cs es)=true:=h.2
     simp only [zqab] at h'
     exact ⟨h'.1.1,h'.2⟩
   exact s_bi g h.1 (eq_of_beq hx) hg hst.1 hst.2 (ok_ws cs ex cc X (e::es) g h.2)
  | some t =>
   rw [hb] at h
   obtain rfl:=isiTy_some hb
   rcases args with _|⟨e,_|⟨f,_|⟨f2,fs⟩⟩⟩ <;> first | exact absurd h zqaa | skip
   replace h:=(zqab _ _).mp h
   refine onName_el (P:=fun f=>PE X (.Call (.Name x p) [e,f] [] pos) _) h.1 fun y py hy=>?_
   simp only [zqab,zqbu] at hy
   rcases cs with _|⟨c,_|⟨c2,cs⟩⟩
   ·exact absurd h.2 zqaa
   ·have h7:(notStar e && chk cc c e && true)=true:=h.2
    simp only [zqab] at h7
    exact s_isi g.toGoodH (eq_of_beq hx) hg (eq_of_beq hy.1.1) hy.1.2 hy.2 h7.1.1 (ok_e c ex cc X e g h7.1.2)
   ·have h7:(notStar e && chk cc c e && chks cc (c2::cs) [])=true:=h.2
    simp only [zqab] at h7
    exact absurd h7.2 zqaa
 | .me m o cs,ex,cc,X,e,g,h=>onCall_el (P:=fun e=>PE X e _) h fun fe args kws pos h=>onAttribute_el (P:=fun fe=>PE X (.Call fe args kws pos) _) h fun e n ap h=>by
  simp only [zqab,zqbw] at h
  obtain ⟨⟨⟨⟨⟨⟨⟨rfl,h1⟩,h2⟩,h3⟩,h4⟩,h5⟩,h6⟩,h7⟩:=h
  exact s_me (eq_of_beq h1) h2 h3 h4 h6 (of_decide_eq_true h7) (ok_e o ex cc X e g h5) (ok_ds cs ex cc X args g h6)
 | .dct ks cs,ex,cc,X,e,g,h=>onDict_el (P:=fun e=>PE X e _) h fun keys vs pos h=>by
  simp only [zqc2,zqab,zqa0,zqbp,zqbu,zqbw] at h
  rcases h with ⟨⟨⟨⟨⟨h1,h2⟩,h3⟩,h4⟩,h5⟩,h6⟩|⟨⟨⟨rfl,rfl⟩,rfl⟩,rfl⟩
  ·exact s_dct h1 h2 h3 h4 h5 h6 (ok_all cs ex cc X g)
  ·exact s_dct0
 | .rng tp cs,_,_,_,_,_,h=>absurd (show false=true from h) zqaa
 | .glo x v,ex,cc,X,e,g,h=>onName_el (P:=fun e=>PE X e _) h fun y pos h=>by
  simp only [zqab,zqa8] at h
  obtain ⟨⟨⟨rfl,h1⟩,h2⟩,h3⟩:=h
  exact s_glo g.toGoodH h1 h2 h3
 | .isTr ng a,ex,cc,X,e,g,h=>(s_isTr (fun e h=>ok_e a ex cc X e g h) h).1
 | .comp k src tg cond elt cap,ex,cc,X,e,g,h=>onListComp_el (P:=fun e=>PE X e _) h fun el gens sc pos h=>by
  rcases gens with _|⟨⟨t,iter,ifs,as⟩,_|⟨_,_⟩⟩ <;> first | exact absurd h zqaa | skip
  simp only [zqab,zqa8,zqbu] at h
  obtain ⟨⟨⟨⟨⟨⟨rfl,h1⟩,h2⟩,h3⟩,h4⟩,h5⟩,h6⟩:=h
  obtain ⟨hsrc,hns⟩:=ok_src src k ex cc X t iter g h3
  obtain ⟨_,_,_,r⟩:=s_comp (pos:=pos) g h1 h2 hns hsrc h4 h5 (fun t ht X' _ g' e he=>ok_cond cond never (blk cc sc) X' g' t ht e he) (fun X' _ g'=>ok_e elt never (blk cc sc) X' el g' h6)
  exact r
theorem ok_t {kk:Nat} {G:Fns}:∀ (t:Tst) (ex:EX) (cc:CC) (X:Cx) (e:Expr),@Good ex kk X cc G->chkT cc t e=true->PT X e (@tTs ex X.K (evT G t))
 | .val (.cmp op a b),ex,cc,X,e,g,h=>t_test bl_cmp (s_cmp g.toGoodH (fun e h=>ok_e a ex cc X e g h) (fun e h=>ok_e b ex cc X e g h) h).2
 | .val (.chain o1 o2 a b c),ex,cc,X,e,g,h=>t_test bl_chain (s_chain g.toGoodH (fun e h=>ok_e a ex cc X e g h) (fun e h=>ok_e b ex cc X e g h) (fun e h=>ok_e c ex cc X e g h) h).2
 | .val (.var i),ex,cc,X,e,g,h=>t_pl h (ok_e (.var i) ex cc X e g)
 | .val (.cst d),ex,cc,X,e,g,h=>t_pl h (ok_e (.cst d) ex cc X e g)
 | .val (.bin op a b),ex,cc,X,e,g,h=>t_pl h (ok_e (.bin op a b) ex cc X e g)
 | .val (.conj cs),ex,cc,X,e,g,h=>t_pl h (ok_e (.conj cs) ex cc X e g)
 | .val (.disj cs),ex,cc,X,e,g,h=>t_pl h (ok_e (.disj cs) ex cc X e g)
 | .val (.neg a),ex,cc,X,e,g,h=>t_pl h (ok_e (.neg a) ex cc X e g)
 | .val (.ite t a b),ex,cc,X,e,g,h=>t_pl h (ok_e (.ite t a b) ex cc X e g)
 | .val (.tup cs),ex,cc,X,e,g,h=>t_pl h (ok_e (.tup cs) ex cc X e g)
 | .val (.lst cs),ex,cc,X,e,g,h=>t_pl h (ok_e (.lst cs) ex cc X e g)
 | .val (.sub a b),ex,cc,X,e,g,h=>t_pl h (ok_e (.sub a b) ex cc X e g)
 | .val (.call f cs),ex,cc,X,e,g,h=>t_pl h (ok_e (.call f cs) ex cc X e g)
 | .val (.bi b cs),ex,cc,X,e,g,h=>t_pl h (ok_e (.bi b cs) ex cc X e g)
 | .val (.me m o cs),ex,cc,X,e,g,h=>t_pl h (ok_e (.me m o cs) ex cc X e g)
 | .val (.dct ks cs),ex,cc,X,e,g,h=>t_pl h (ok_e (.dct ks cs) ex cc X e g)
 | .val (.rng tp cs),ex,cc,X,e,g,h=>t_pl h (ok_e (.rng tp cs) ex cc X e g)
 | .val (.isTr ng a),ex,cc,X,e,g,h=>t_test bl_isTr (s_isTr (fun e h=>ok_e a ex cc X e g h) h).2
 | .val (.glo x v),ex,cc,X,e,g,h=>t_pl h (ok_e (.glo x v) ex cc X e g)
 | .val (.xf a f),ex,cc,X,e,g,h=>t_pl h (ok_e (.xf a f) ex cc X e g)
 | .val (.isx a k tb),ex,cc,X,e,g,h=>t_pl h (ok_e (.isx a k tb) ex cc X e g)
 | .val (.hcall f cs),ex,cc,X,e,g,h=>t_pl h (ok_e (.hcall f cs) ex cc X e g)
 | .val (.comp k src tg cond elt cap),ex,cc,X,e,g,h=>t_pl h (ok_e (.comp k src tg cond elt cap) ex cc X e g)
 | .conj ts,ex,cc,X,e,g,h=>by
  refine onBoolOp_el (P:=fun e=>PT X e _) h fun op es pos h=>?_
  simp only [zqab,zqa0,zqbp] at h
  cases op with
  | Or=>exact absurd h.1.1 zqaa
  | And=>exact ptI (t_all ts es pos (ok_ts ts ex cc X g) h.1.2 h.2).pt fun σ H Q q=>q
 | .disj ts,ex,cc,X,e,g,h=>by
  refine onBoolOp_el (P:=fun e=>PT X e _) h fun op es pos h=>?_
  simp only [zqab,zqa0,zqbp] at h
  cases op with
  | And=>exact absurd h.1.1.symm zqaa
  | Or=>exact ptI (t_any ts es pos (ok_ts ts ex cc X g) h.1.2 h.2).pt fun σ H Q q=>q
 | .neg t,ex,cc,X,e,g,h=>by
  refine onUnaryOp_el (P:=fun e=>PT X e _) h fun op x pos h=>?_
  replace h:=(zqab _ _).mp h
  cases op <;> first | exact absurd h.1 zqaa | skip
  exact t_neg (ok_t t ex cc X x g h.2)
theorem ok_ds {kk:Nat} {G:Fns}:∀ (cs:List C) (ex:EX) (cc:CC) (X:Cx) (es:List Expr),@Good ex kk X cc G->chks cc cs es=true->PA X es (@tDs ex X.K (evDs G cs))
 | [],ex,cc,X,[],g,h=>s_nil
 | [],ex,cc,X,_::_,g,h=>by cases h
 | _::_,ex,cc,X,[],g,h=>by cases h
 | c::cs,ex,cc,X,e::es,g,h=>by
  have h':(notStar e && chk cc c e && chks cc cs es)=true:=h
  simp only [zqab] at h'
  exact s_cons h'.1.1 (ok_e c ex cc X e g h'.1.2) (ok_ds cs ex cc X es g h'.2)
theorem ok_ws {kk:Nat} {G:Fns}:∀ (cs:List C) (ex:EX) (cc:CC) (X:Cx) (es:List Expr),@Good ex kk X cc G->chks cc cs es=true->PA X es (@tWs ex X.K (evWs G cs))
 | [],ex,cc,X,[],g,h=>w_nil
 | [],ex,cc,X,_::_,g,h=>by cases h
 | _::_,ex,cc,X,[],g,h=>by cases h
 | c::cs,ex,cc,X,e::es,g,h=>by
  have h':(notStar e && chk cc c e && chks cc cs es)=true:=h
  simp only [zqab] at h'
  exact w_cons h'.1.1 (ok_e c ex cc X e g h'.1.2) (ok_ws cs ex cc X es g h'.2)
theorem ok_all {kk:Nat} {G:Fns}:∀ (cs:List C) (ex:EX) (cc:CC) (X:Cx),@Good ex kk X cc G->∀ c∈cs,∀ e,chk cc c e=true->PE X e (@tE ex X.K (ev G c))
 | [],ex,cc,X,g,c,hc,e,h=>by cases hc
 | c::cs,ex,cc,X,g,c',hc,e,h=>by
  rcases zqaq.mp hc with z | z
  ·rw [z] at h ⊢;exact ok_e c ex cc X e g h
  ·exact ok_all cs ex cc X g c' z e h
theorem ok_ts {kk:Nat} {G:Fns}:∀ (ts:List Tst) (ex:EX) (cc:CC) (X:Cx),@Good ex kk X cc G->∀ t∈ts,∀ e,chkT cc t e=true->PT X e (@tTs ex X.K (evT G t))
 | [],ex,cc,X,g,c,hc,e,h=>by cases hc
 | c::cs,ex,cc,X,g,c',hc,e,h=>by
  rcases zqaq.mp hc with z | z
  ·rw [z] at h ⊢;exact ok_t c ex cc X e g h
  ·exact ok_ts cs ex cc X g c' z e h
theorem ok_o {kk:Nat} {G:Fns}:∀ (o:Option C) (ex:EX) (cc:CC) (X:Cx) (e:Option Expr),@Good ex kk X cc G->chkO cc o e=true->PO X e (@tO ex X.K (evO G o))
 | none,ex,cc,X,none,g,h=>s_optN
 | none,ex,cc,X,some _,g,h=>by cases h
 | some _,ex,cc,X,none,g,h=>by cases h
 | some c,ex,cc,X,some e,g,h=>s_optS (ok_e c ex cc X e g h)
theorem ok_cond {kk:Nat} {G:Fns}:∀ (o:Option Tst) (ex:EX) (cc:CC) (X:Cx),@Good ex kk X cc G->∀ t,o=some t->∀ e,chkT cc t e=true->PT X e (@tTs ex X.K (evT G t))
 | none,ex,cc,X,g,t,ht,e,h=>by cases ht
 | some c,ex,cc,X,g,t,ht,e,h=>by cases ht;exact ok_t c ex cc X e g h
theorem ok_src {kk:Nat} {G:Fns}:∀ (src:List C) (k:SK) (ex:EX) (cc:CC) (X:Cx) (t iter:Expr),@Good ex kk X cc G->chkSrc cc k src t iter=true->PI X t iter (@tI ex X.K (evSrc G k src))/\notSet iter=true
 | [],k,ex,cc,X,t,iter,g,h=>by cases k <;> cases h
 | [c],.seq,ex,cc,X,t,iter,g,h=>by
  have h':(notSet iter && chk cc c iter)=true:=h
  simp only [zqab] at h'
  exact ⟨src_seq (ok_e c ex cc X iter g h'.2),h'.1⟩
 | [c],.vals,ex,cc,X,t,iter,g,h=>by cases h
 | [c],.keys,ex,cc,X,t,iter,g,h=>by cases h
 | [c],.rng1,ex,cc,X,t,iter,g,h=>by
  refine onCall_el (P:=fun iter=>PI X t iter _/\notSet iter=true) h fun fe args kws pos h=>onName_el (P:=fun fe=>PI X t (.Call fe args kws pos) _/\notSet (.Call fe args kws pos)=true) h fun x p h=>?_
  rcases args with _|⟨a,_|⟨a2,as⟩⟩ <;> first | exact absurd h zqaa | skip
  cases kws <;> first | exact absurd h zqaa | skip
  simp only [zqab] at h
  exact ⟨src_rng1 g (eq_of_beq h.1.1.1) h.1.1.2 h.1.2 (ok_e c ex cc X a g h.2),rfl⟩
 | [c],.enum,ex,cc,X,t,iter,g,h=>by cases h
 | [c],.rng2,ex,cc,X,t,iter,g,h=>by cases h
 | [c],.zip,ex,cc,X,t,iter,g,h=>by cases h
 | [c],.rngd,ex,cc,X,t,iter,g,h=>by cases h
 | [c,d],.rng2,ex,cc,X,t,iter,g,h=>by cases h
 | [c,d],.seq,ex,cc,X,t,iter,g,h=>by cases h
 | [c,d],.rngd,ex,cc,X,t,iter,g,h=>by cases h
 | [c,d],.keys,ex,cc,X,t,iter,g,h=>by cases h
 | [c,d],.vals,ex,cc,X,t,iter,g,h=>by cases h
 | [c,d],.rng1,ex,cc,X,t,iter,g,h=>by cases h
 | [c,d],.enum,ex,cc,X,t,iter,g,h=>by cases h
 | [c,d],.zip,ex,cc,X,t,iter,g,h=>by cases h
 | [c,d,m],.rngd,ex,cc,X,t,iter,g,h=>by cases h
 | [c,d,m],.seq,ex,cc,X,t,iter,g,h=>by cases h
 | [c,d,m],.keys,ex,cc,X,t,iter,g,h=>by cases h
 | [c,d,m],.vals,ex,cc,X,t,iter,g,h=>by cases h
 | [c,d,m],.rng1,ex,cc,X,t,iter,g,h=>by cases h
 | [c,d,m],.rng2,ex,cc,X,t,iter,g,h=>by cases h
 | [c,d,m],.enum,ex,cc,X,t,iter,g,h=>by cases h
 | [c,d,m],.zip,ex,cc,X,t,iter,g,h=>by cases h
 | _::_::_::_::_,k,ex,cc,X,t,iter,g,h=>by cases k <;> cases h
end
mutual
noncomputable def hotC:C->Bool
 | .var _=>true
 | .cst _=>true
 | .bin _ a b=>hotC a && hotC b
 | .cmp _ a b=>hotC a && hotC b
 | .sub a b=>hotC a && hotC b
 | .neg a=>hotC a
 | .isTr _ a=>hotC a
 | .xf a _=>hotC a
 | .isx a _ _=>hotC a
 | .ite t a b=>hotT t && hotC a && hotC b
 | .tup cs=>hotCs cs
 | .lst cs=>hotCs cs
 | .hcall _ cs=>hotCs cs
 | _=>false
noncomputable def hotCs:List C->Bool
 | []=>true
 | c::cs=>hotC c && hotCs cs
noncomputable def hotT:Tst->Bool
 | .val c=>hotC c
 | .neg t=>hotT t
 | .conj ts=>hotTs ts
 | .disj ts=>hotTs ts
noncomputable def hotTs:List Tst->Bool
 | []=>true
 | c::cs=>hotT c && hotTs cs
end
mutual
theorem h_e {kk:Nat} {G:Fns}:∀ (c:C) (cc:CC) (X:Cx) (e:Expr),GoodH kk X cc G->hotC c=true->chk cc c e=true->PE X e (tE X.K (ev G c))
 | .var i,cc,X,e,g,k,h=>s_var g h
 | .cst d,cc,X,e,g,k,h=>s_cst h
 | .bin op a b,cc,X,e,g,k,h=>s_bin (fun e h=>h_e a cc X e g ((zqab _ _).mp k).1 h) (fun e h=>h_e b cc X e g ((zqab _ _).mp k).2 h) h
 | .cmp op a b,cc,X,e,g,k,h=>(s_cmp g (fun e h=>h_e a cc X e g ((zqab _ _).mp k).1 h) (fun e h=>h_e b cc X e g ((zqab _ _).mp k).2 h) h).1
 | .sub a b,cc,X,e,g,k,h=>onSubscript_el (P:=fun e=>PE X e _) h fun e i pos h=>by
  simp only [zqab] at h
  exact s_sub g h.1.1 (h_e a cc X e g ((zqab _ _).mp k).1 h.1.2) (h_e b cc X i g ((zqab _ _).mp k).2 h.2)
 | .neg a,cc,X,e,g,k,h=>s_neg (fun e h=>h_e a cc X e g k h) h
 | .isTr ng a,cc,X,e,g,k,h=>(s_isTr (fun e h=>h_e a cc X e g k h) h).1
 | .xf a f,cc,X,e,g,k,h=>onAttribute_el (P:=fun e=>PE X e _) h fun e n pos h=>by
  simp only [zqab,zqa8] at h
  obtain ⟨⟨rfl,h1⟩,h2⟩:=h
  exact onName_el (P:=fun e=>chk cc a e=true->PE X (.Attribute e n pos) _) h1 (fun x p _ h2=>s_xf (h_e a cc X _ g k h2)) h2
 | .isx a ix tb,cc,X,e,g,k,h=>onCall_el (P:=fun e=>PE X e _) h fun fe args kws pos h=>onName_el (P:=fun fe=>PE X (.Call fe args kws pos) _) h fun x p h=>by
  rcases args with _|⟨u,_|⟨v,_|⟨_,_⟩⟩⟩ <;> first | exact absurd h zqaa | skip
  cases kws <;> first | exact absurd h zqaa | skip
  simp only [zqab] at h
  obtain ⟨⟨⟨⟨⟨h1,h2⟩,h3⟩,h4⟩,h5⟩,h6⟩:=h
  exact s_isx g (eq_of_beq h1) h2 h3 (h_e a cc X u g k h4) h5 h6
 | .ite t a b,cc,X,e,g,k,h=>onIfExp_el (P:=fun e=>PE X e _) h fun c x y pos h=>by
  simp only [zqab] at h
  have k:(hotT t && hotC a && hotC b)=true:=k
  simp only [zqab] at k
  exact s_ite (h_t t cc X c g k.1.1 h.1.1) (h_e a cc X x g k.1.2 h.1.2) (h_e b cc X y g k.2 h.2)
 | .tup cs,cc,X,e,g,k,h=>s_tup (fun es h=>h_ds cs cc X es g k h) h
 | .lst cs,cc,X,e,g,k,h=>s_lst (fun es h=>h_ds cs cc X es g k h) h
 | .hcall f cs,cc,X,e,g,k,h=>onCall_el (P:=fun e=>PE X e _) h fun fe args kws pos h=>onName_el (P:=fun fe=>PE X (.Call fe args kws pos) _) h fun x p h=>by
  rcases args with _|⟨e,es⟩ <;> first | exact absurd h zqaa | skip
  cases kws <;> first | exact absurd h zqaa | skip
  simp only [zqab,zqa8] at h
  exact s_hcall g h.1.1.1.1 (List.contains_iff_mem.mp h.1.1.1.2) h.1.1.2 h.1.2 h.2 (h_ds cs cc X (e::es) g k h.2)
 | .chain o1 o2 a b c,cc,X,e,g,k,h=>absurd k zqaa
 | .conj cs,cc,X,e,g,k,h=>absurd k zqaa
 | .disj cs,cc,X,e,g,k,h=>absurd k zqaa
 | .call f cs,cc,X,e,g,k,h=>absurd k zqaa
 | .bi b cs,cc,X,e,g,k,h=>absurd k zqaa
 | .me m o cs,cc,X,e,g,k,h=>absurd k zqaa
 | .dct ks cs,cc,X,e,g,k,h=>absurd k zqaa
 | .rng tp cs,cc,X,e,g,k,h=>absurd k zqaa
 | .glo x v,cc,X,e,g,k,h=>absurd k zqaa
 | .comp sk src tg cond elt cap,cc,X,e,g,k,h=>absurd k zqaa
theorem h_t {kk:Nat} {G:Fns}:∀ (t:Tst) (cc:CC) (X:Cx) (e:Expr),GoodH kk X cc G->hotT t=true->chkT cc t e=true->PT X e (tTs X.K (evT G t))
 | .val (.cmp op a b),cc,X,e,g,k,h=>t_test bl_cmp (s_cmp g (fun e h=>h_e a cc X e g ((zqab _ _).mp k).1 h) (fun e h=>h_e b cc X e g ((zqab _ _).mp k).2 h) h).2
 | .val (.isTr ng a),cc,X,e,g,k,h=>t_test bl_isTr (s_isTr (fun e h=>h_e a cc X e g k h) h).2
 | .val (.var i),cc,X,e,g,k,h=>t_pl h (h_e (.var i) cc X e g k)
 | .val (.cst d),cc,X,e,g,k,h=>t_pl h (h_e (.cst d) cc X e g k)
 | .val (.bin op a b),cc,X,e,g,k,h=>t_pl h (h_e (.bin op a b) cc X e g k)
 | .val (.sub a b),cc,X,e,g,k,h=>t_pl h (h_e (.sub a b) cc X e g k)
 | .val (.xf a f),cc,X,e,g,k,h=>t_pl h (h_e (.xf a f) cc X e g k)
 | .val (.isx a ix tb),cc,X,e,g,k,h=>t_pl h (h_e (.isx a ix tb) cc X e g k)
 | .val (.tup cs),cc,X,e,g,k,h=>t_pl h (h_e (.tup cs) cc X e g k)
 | .val (.lst cs),cc,X,e,g,k,h=>t_pl h (h_e (.lst cs) cc X e g k)
 | .val (.hcall f cs),cc,X,e,g,k,h=>t_pl h (h_e (.hcall f cs) cc X e g k)
 | .val (.ite t a b),cc,X,e,g,k,h=>t_pl h (h_e (.ite t a b) cc X e g k)
 | .val (.neg a),cc,X,e,g,k,h=>t_pl h (h_e (.neg a) cc X e g k)
 | .val (.chain o1 o2 a b c),cc,X,e,g,k,h=>absurd k zqaa
 | .val (.conj cs),cc,X,e,g,k,h=>absurd k zqaa
 | .val (.disj cs),cc,X,e,g,k,h=>absurd k zqaa
 | .val (.call f cs),cc,X,e,g,k,h=>absurd k zqaa
 | .val (.bi b cs),cc,X,e,g,k,h=>absurd k zqaa
 | .val (.me m o cs),cc,X,e,g,k,h=>absurd k zqaa
 | .val (.dct ks cs),cc,X,e,g,k,h=>absurd k zqaa
 | .val (.rng tp cs),cc,X,e,g,k,h=>absurd k zqaa
 | .val (.glo x v),cc,X,e,g,k,h=>absurd k zqaa
 | .val (.comp sk src tg cond elt cap),cc,X,e,g,k,h=>absurd k zqaa
 | .conj ts,cc,X,e,g,k,h=>by
  refine onBoolOp_el (P:=fun e=>PT X e _) h fun op es pos h=>?_
  simp only [zqab,zqa0,zqbp] at h
  cases op with
  | Or=>exact absurd h.1.1 zqaa
  | And=>exact ptI (t_all ts es pos (h_ts ts cc X g k) h.1.2 h.2).pt fun σ H Q q=>q
 | .disj ts,cc,X,e,g,k,h=>by
  refine onBoolOp_el (P:=fun e=>PT X e _) h fun op es pos h=>?_
  simp only [zqab,zqa0,zqbp] at h
  cases op with
  | And=>exact absurd h.1.1.symm zqaa
  | Or=>exact ptI (t_any ts es pos (h_ts ts cc X g k) h.1.2 h.2).pt fun σ H Q q=>q
 | .neg t,cc,X,e,g,k,h=>by
  refine onUnaryOp_el (P:=fun e=>PT X e _) h fun op x pos h=>?_
  replace h:=(zqab _ _).mp h
  cases op <;> first | exact absurd h.1 zqaa | skip
  exact t_neg (h_t t cc X x g k h.2)
theorem h_ds {kk:Nat} {G:Fns}:∀ (cs:List C) (cc:CC) (X:Cx) (es:List Expr),GoodH kk X cc G->hotCs cs=true->chks cc cs es=true->PA X es (tDs X.K (evDs G cs))
 | [],cc,X,[],g,k,h=>s_nil
 | [],cc,X,_::_,g,k,h=>by cases h
 | _::_,cc,X,[],g,k,h=>by cases h
 | c::cs,cc,X,e::es,g,k,h=>by
  have h':(notStar e && chk cc c e && chks cc cs es)=true:=h
  simp only [zqab] at h'
  exact s_cons h'.1.1 (h_e c cc X e g ((zqab _ _).mp k).1 h'.1.2) (h_ds cs cc X es g ((zqab _ _).mp k).2 h'.2)
theorem h_ts {kk:Nat} {G:Fns}:∀ (ts:List Tst) (cc:CC) (X:Cx),GoodH kk X cc G->hotTs ts=true->∀ t∈ts,∀ e,chkT cc t e=true->PT X e (tTs X.K (evT G t))
 | [],cc,X,g,k,t,hm,e,h=>by cases hm
 | t'::ts,cc,X,g,k,t,hm,e,h=>by
  rcases zqaq.mp hm with z | z
  ·rw [z] at h ⊢;exact h_t t' cc X e g ((zqab _ _).mp k).1 h
  ·exact h_ts ts cc X g ((zqab _ _).mp k).2 t z e h
end
section
variable [EX]
inductive TB where
 | asg (i f:Nat) (cs:List C) | asg1 (i f:Nat) (cs:List C) | exp (f:Nat) (cs:List C)
noncomputable def TB.fn:TB->Nat
 | .asg _ f _=>f
 | .asg1 _ f _=>f
 | .exp f _=>f
noncomputable def TB.args:TB->List C
 | .asg _ _ cs=>cs
 | .asg1 _ _ cs=>cs
 | .exp _ cs=>cs
inductive S where
 | asg (tg:List Nat) (c:C)
 | asgC (i:Nat) (c:C)
 | put (o i v:C)
 | dput (o i v:C)
 | par (i j:Nat) (a b:C)
 | expr (c:C)
 | ret (c:C)
 | retN
 | iff (t:Tst) (a b:List S)
 | forr (tg:List Nat) (k:SK) (src:List C) (b:List S)
 | whl (n:Nat) (t:Tst) (b:List S)
 | rse (a:Addr) (fs:List Str) (cs:List C)
 | tryc (b:TB) (cb:Str) (mt:List (Addr×List Str)) (j:Nat) (h:List S)
 | never | pass | brk | cont
inductive OutS where
 | nx (ρ:En) (M:Mem) | rt (w:W) (M:Mem) | bk (ρ:En) (M:Mem) | ct (ρ:En) (M:Mem) | er (x:Exn) (M:Mem) | stuck
noncomputable def OutS.ofE {α:Type} (o:Out α) (f:α->Mem->OutS):OutS:=match o with
 | .ok a M=>f a M
 | .err x M=>.er x M
 | .stuck=>.stuck
noncomputable def OutS.hdl (j:Nat) (o:OutS):OutS:=match o with
 | .nx ρ M=>.nx (ρ.set j none) M
 | _=>.stuck
def TB.got (b:TB) (w:W) (M:Mem) (ρ:En):OutS:=match b with
 | .asg i _ _=>OutS.ofE (own w M) fun d M=>.nx (ρ.set i (some d)) M
 | .asg1 i _ _=>OutS.ofE (own w M) fun d M=>.nx (ρ.set i (some (.tup [d]))) M
 | .exp _ _=>.nx ρ M
noncomputable def OutS.seq (o:OutS) (f:En->Mem->OutS):OutS:=match o with
 | .nx ρ M=>f ρ M
 | o=>o
def forGo (body:En->Mem->OutS) (it:Ev.It) (tg:List Nat):Nat->Nat->En->Mem->OutS
 | 0,i,ρ,M=>match itemAt M i it with
  | some none=>.nx ρ M
  | _=>.stuck
 | f+1,i,ρ,M=>match itemAt M i it with
  | some none=>.nx ρ M
  | some (some d)=>match bindT tg d ρ with
   | none=>.stuck
   | some ρ=>match body ρ M with
    | .nx ρ M=>forGo body it tg f (i+1) ρ M
    | .ct ρ M=>forGo body it tg f (i+1) ρ M
    | .bk ρ M=>.nx ρ M
    | .rt w M=>.rt w M
    | .er x M=>.er x M
    | .stuck=>.stuck
  | none=>.stuck
noncomputable def whGo (test:En->Mem->Out Bool) (body:En->Mem->OutS):Nat->En->Mem->OutS
  | 0,_,_=>.stuck
  | f+1,ρ,M=>match test ρ M with
    | .ok r M => if r then (match body ρ M with
        | .nx ρ M=>whGo test body f ρ M
        | .ct ρ M=>whGo test body f ρ M
        | .bk ρ M=>.nx ρ M
        | .rt w M=>.rt w M
        | .er x M=>.er x M
        | .stuck=>.stuck) else .nx ρ M
    | .err x M=>.er x M
    | .stuck=>.stuck
mutual
noncomputable def evS (G:Fns):S->En->Mem->OutS
 | .asg tg c,ρ,M=>OutS.ofE ((ev G c ρ M).bind own) fun d M=>match bindT tg d ρ with
  | some ρ=>.nx ρ M
  | none=>.stuck
 | .asgC i c,ρ,M=>OutS.ofE ((ev G c ρ M).bind own) fun d M=>.nx (ρ.set i (some d)) M
 | .put o i v,ρ,M=>OutS.ofE ((ev G v ρ M).bind own) fun d M=>OutS.ofE (ev G o ρ M) fun x M=>OutS.ofE (ev G i ρ M) fun y M=>OutS.ofE (setW x y d M) fun _ M=>.nx ρ M
 | .dput o i v,ρ,M=>OutS.ofE ((ev G v ρ M).bind own) fun d M=>OutS.ofE (ev G o ρ M) fun x M=>OutS.ofE (ev G i ρ M) fun y M=>OutS.ofE (putTW x y d M) fun _ M=>.nx ρ M
 | .par i j a b,ρ,M=>OutS.ofE (evDs G [a,b] ρ M) fun ds M=>match ds with
  | [x,y]=>.nx ((ρ.set i (some x)).set j (some y)) M
  | _=>.stuck
 | .expr c,ρ,M=>OutS.ofE (ev G c ρ M) fun _ M=>.nx ρ M
 | .ret c,ρ,M=>OutS.ofE (ev G c ρ M) fun w M=>.rt w M
 | .retN,_,M=>.rt (.d .non) M
 | .iff t a b,ρ,M=>OutS.ofE (evT G t ρ M) fun r M=>if r then evSs G a ρ M else evSs G b ρ M
 | .forr tg k src b,ρ,M=>OutS.ofE (evSrc G k src ρ M) fun it M=>forGo (fun ρ M=>evSs G b ρ M) it tg (itLen M it) 0 ρ M
 | .whl n t b,ρ,M=>whGo (fun ρ M=>evT G t ρ M) (fun ρ M=>evSs G b ρ M) n ρ M
 | .rse a f c,ρ,M=>OutS.ofE (evDs G c ρ M) fun ds M=>.er ⟨a,f.zip ds⟩ M
 | .tryc b _ mt j h,ρ,M=>match evDs G b.args ρ M with
  | .ok ds M1=>match G b.fn ds M1 with
   | .ok w M2=>b.got w M2 ρ
   | .err x M2=>if mt.lookup x.cls=some (x.fs.map (·.1)) then (evSs G h (ρ.set j (some (.adr M2.length))) (M2++[.xc x.cls x.fs])).hdl j else .stuck
   | .stuck=>.stuck
  | _=>.stuck
 | .never,_,_=>.stuck
 | .pass,ρ,M=>.nx ρ M
 | .brk,ρ,M=>.bk ρ M
 | .cont,ρ,M=>.ct ρ M
noncomputable def evSs (G:Fns):List S->En->Mem->OutS
 | [],ρ,M=>.nx ρ M
 | s::ss,ρ,M=>(evS G s ρ M).seq fun ρ M=>evSs G ss ρ M
end
section
variable {G:Fns} {lo hi:Option C} {cond:Option Tst}
theorem evS_asg : evS G (.asg tg c) ρ M = (OutS.ofE ((ev G c ρ M).bind own) fun d M => match bindT tg d ρ with
    | some ρ=>.nx ρ M
    | none=>.stuck):=rfl
theorem evS_asgC:evS G (.asgC i c) ρ M=OutS.ofE ((ev G c ρ M).bind own) fun d M=>.nx (ρ.set i (some d)) M:=rfl
theorem evS_put:evS G (.put o i v) ρ M=OutS.ofE ((ev G v ρ M).bind own) fun d M=>OutS.ofE (ev G o ρ M) fun x M=>OutS.ofE (ev G i ρ M) fun y M=>OutS.ofE (setW x y d M) fun _ M=>.nx ρ M:=rfl
theorem evS_dput:evS G (.dput o i v) ρ M=OutS.ofE ((ev G v ρ M).bind own) fun d M=>OutS.ofE (ev G o ρ M) fun x M=>OutS.ofE (ev G i ρ M) fun y M=>OutS.ofE (putTW x y d M) fun _ M=>.nx ρ M:=rfl
theorem evS_par : evS G (.par i j a b) ρ M = (OutS.ofE (evDs G [a, b] ρ M) fun ds M => match ds with
    | [x,y]=>.nx ((ρ.set i (some x)).set j (some y)) M
    | _=>.stuck):=rfl
theorem evS_expr:evS G (.expr c) ρ M=OutS.ofE (ev G c ρ M) fun _ M=>.nx ρ M:=rfl
theorem evS_ret:evS G (.ret c) ρ M=OutS.ofE (ev G c ρ M) fun w M=>.rt w M:=rfl
theorem evS_iff:evS G (.iff t a b) ρ M=OutS.ofE (evT G t ρ M) fun r M=>if r then evSs G a ρ M else evSs G b ρ M:=rfl
theorem evS_forr:evS G (.forr tg k src b) ρ M=OutS.ofE (evSrc G k src ρ M) fun it M=>forGo (fun ρ M=>evSs G b ρ M) it tg (itLen M it) 0 ρ M:=rfl
theorem evS_whl:evS G (.whl n t b) ρ M=whGo (fun ρ M=>evT G t ρ M) (fun ρ M=>evSs G b ρ M) n ρ M:=rfl
theorem evS_rse {f:List Str} {c:List C}:evS G (.rse a f c) ρ M=OutS.ofE (evDs G c ρ M) fun ds M=>.er ⟨a,f.zip ds⟩ M:=rfl
theorem evS_tryc {b : TB} {cb : Str} {mt : List (Addr × List Str)} {h : List S} : evS G (.tryc b cb mt j h) ρ M = (match evDs G b.args ρ M with
    | .ok ds M1=>(match G b.fn ds M1 with
      | .ok w M2=>b.got w M2 ρ
      | .err x M2=>if mt.lookup x.cls=some (x.fs.map (·.1)) then (evSs G h (ρ.set j (some (.adr M2.length))) (M2++[.xc x.cls x.fs])).hdl j else .stuck
      | .stuck=>.stuck)
    | _=>.stuck):=rfl
theorem evSs_nil:evSs G [] ρ M=.nx ρ M:=rfl
theorem evSs_cons:evSs G (s::ss) ρ M=(evS G s ρ M).seq fun ρ M=>evSs G ss ρ M:=rfl
end
noncomputable def isComp (e:Expr):Bool:=Nat.beq e.ctorIdx 8 || (Nat.beq e.ctorIdx 9 || Nat.beq e.ctorIdx 10)
def okVal (cc:CC) (t v:Expr):Bool:=(!isComp v && !(isTuple t && isTuple v)) || onName t fun x _=>cc.names.lookup x == some .cell
mutual
noncomputable def hotS:S->Bool
 | .asg tg c=>Nat.beq tg.length 1 && hotC c
 | .iff t a b=>hotT t && hotSs a && hotSs b
 | .ret c=>hotC c
 | .expr c=>hotC c
 | .pass=>true
 | _=>false
noncomputable def hotSs:List S->Bool
 | []=>true
 | s::ss=>hotS s && hotSs ss
end
noncomputable def stTry (e:Stmt) (f:List Stmt->List ExceptHandler->List Stmt->List Stmt->Pos->Bool):Bool:=if h:e.ctorIdx=17 then Stmt.Try.elim (motive_2:=fun _=>Bool) e h f else false
theorem stTry_el {P:Stmt->Prop} {e:Stmt} {f:List Stmt->List ExceptHandler->List Stmt->List Stmt->Pos->Bool} (h:stTry e f=true) (k:∀ a b c d e,f a b c d e=true->P (.Try a b c d e)):P e :=
 Stmt.Try.elim (motive_2:=fun e=>stTry e f=true->P e) e (on_idx h) (fun a b c d e h=>k a b c d e h) h
def chkFn (cc:CC) (f:Nat) (cs:List C) (e:Expr):Bool:=onCall e fun fe args kws _=>kws.isEmpty && !args.isEmpty && (onName fe fun x _=>cc.fs[f]? == some (x,cs.length) && glob cc x && plainName x) && chks cc cs args
def chkLoc (cc:CC) (i:Nat) (e:Expr):Bool:=onName e fun x _=>cc.N[i]? == some x && cc.names.lookup x == some .local
def chkTB (cc:CC):TB->Stmt->Bool
 | .asg i f cs,s=>stAssign s fun ts v _=>match ts with
  | [t]=>chkLoc cc i t && chkFn cc f cs v
  | _=>false
 | .asg1 i f cs,s=>stAssign s fun ts v _=>match ts with
  | [t]=>chkLoc cc i t && (onTuple v fun es _ _=>match es with
   | [e]=>chkFn cc f cs e
   | _=>false)
  | _=>false
 | .exp f cs,s=>stExpr s fun e _=>chkFn cc f cs e
mutual
noncomputable def chkS (cc:CC):S->Stmt->Bool
 | .asg tg c,s=>stAssign s fun ts v _=>match ts with
  | [t]=>chkTg cc tg t && okVal cc t v && (!isComp v || Nat.beq v.ctorIdx 8) && chk cc c v
  | _=>false
 | .asgC i c,s=>false
 | .put o i v,s=>stAssign s fun ts w _=>match ts with
  | [t]=>onSubscript t fun e f _=>noSlice f && chk cc o e && chk cc i f && chk cc v w
  | _=>false
 | .dput o i v,s=>false
 | .par i j a b,s=>false
 | .expr c,s=>stExpr s fun e _=>!isComp e && chk cc c e
 | .ret c,s=>stReturn s fun o _=>match o with
  | some e=>chk cc c e
  | none=>false
 | .retN,s=>stReturn s fun o _=>o.isNone
 | .iff t a b,s=>stIf s fun c x y _=>chkT cc t c && chkSs cc a x && chkSs cc b y
 | .forr tg k src b,s=>stFor s fun t iter body els _=>els.isEmpty && chkSrc cc k src t iter && chkTg cc tg t && chkSs cc b body
 | .whl _ t b,s=>false
 | .rse a f c,s=>stRaise s fun e k _=>k.isNone && (match e with
  | some e=>onCall e fun fe args kws _=>kws.isEmpty && (onName fe fun x _=>glob cc x && plainName x && cc.xs.cl.lookup x == some (a,f)) && Nat.beq c.length f.length && Nat.ble f.length 100 && !args.isEmpty && chks cc c args
  | none=>false)
 | .tryc b cb mt j h,s=>stTry s fun body hs els fin _=>els.isEmpty && fin.isEmpty && (match body,hs with
  | [st],[.ExceptHandler (some te) (some n) hb _]=>chkTB cc b st && (onName te fun y _=>y == cb && glob cc y && plainName y) && cc.N[j]? == some n && cc.names.lookup n == some .local && mt.all (fun p=>cc.xs.ct.contains (cb,p.1,p.2)) && hotSs h && !hb.isEmpty && chkSs cc h hb
  | _,_=>false)
 | .never,_=>true
 | .pass,s=>stPass s fun _=>true
 | .brk,s=>stBreak s fun _=>true
 | .cont,s=>stContinue s fun _=>true
noncomputable def chkSs (cc:CC):List S->List Stmt->Bool
 | [],[]=>true
 | s::ss,t::ts=>chkS cc s t && chkSs cc ss ts
 | _,_=>false
end
def OkS (K:PySem.W.Frag) (ads:List Addr) (H:Hp) (D:Ends):OutS->Prop
 | .nx ρ M=>∀ σ' H' ads',Grow ads ads' H H'->SR K ads' M ρ σ' H'->D.nx σ' H'
 | .bk ρ M=>∀ σ' H' ads',Grow ads ads' H H'->SR K ads' M ρ σ' H'->D.bk σ' H'
 | .ct ρ M=>∀ σ' H' ads',Grow ads ads' H H'->SR K ads' M ρ σ' H'->D.ct σ' H'
 | .rt w M=>PostW K ads H w M D.rt
 | .er x M=>EX.post K ads H x M
 | .stuck=>False
def tSt (K:PySem.W.Frag) (o:En->Mem->OutS):TS:=fun D σ H=>∃ ads M ρ,SR K ads M ρ σ H/\OkS K ads H D (o ρ M)
theorem OkS.shift {K:PySem.W.Frag} {ads ads':List Addr} {H H':Hp} {M M2:Mem} {D:Ends} {o:OutS} (p:OkS K ads H D o) (g:Grow ads ads' H H') (m:MRel K ads H M) (m':MRel K ads' H' M2):OkS K ads' H' D o:=by
 cases o with
 | nx ρ M=>exact fun σ H1 ads1 g1 s1=>p σ H1 ads1 (g.trans g1) s1
 | bk ρ M=>exact fun σ H1 ads1 g1 s1=>p σ H1 ads1 (g.trans g1) s1
 | ct ρ M=>exact fun σ H1 ads1 g1 s1=>p σ H1 ads1 (g.trans g1) s1
 | rt w M=>exact PostW.shift p g m m'
 | er x M=>exact EX.shift p g
 | stuck=>exact p
theorem psI {X:Cx} {st:Stmt} {t u:TS} (h:PS X st t) (f:∀ D σ H,u D σ H->t D σ H):PS X st u:=fun pins s σ H D I q=>h pins s σ H D I (f D σ H q)
theorem pssI {X:Cx} {st:List Stmt} {t u:TS} (h:PSs X st t) (f:∀ D σ H,u D σ H->t D σ H):PSs X st u:=fun pins s σ H D I q=>h pins s σ H D I (f D σ H q)
section
variable {kk:Nat} {X:Cx} {cc:CC} {G:Fns}
theorem swap_no {e:Expr} (h:isComp e=false) (t:Option Expr) (l:Nat) (env:Env):swapsWith e t l env=pure false:=by
 cases e <;> first | rfl | exact absurd (show true=false from h).symm zqaa
theorem s_seq {K:PySem.W.Frag} {o:En->Mem->OutS} {k:En->Mem->OutS} {σ:L2.St} {H:Hp} {D:Ends} (h:tSt K (fun ρ M=>(o ρ M).seq k) D σ H):tSeq (tSt K o) (tSt K k) D σ H:=by
 obtain ⟨ads,M,ρ,s,q⟩:=h
 have q:OkS K ads H D ((o ρ M).seq k):=q
 refine ⟨ads,M,ρ,s,?_⟩
 cases hq:o ρ M with
 | nx ρ1 M1 =>
  rw [hq] at q
  intro σ1 H1 ads1 g1 s1
  exact ⟨ads1,M1,ρ1,s1,OkS.shift (o:=k ρ1 M1) q g1 s.mem s1.mem⟩
 | bk ρ M=>rw [hq] at q;exact q
 | ct ρ M=>rw [hq] at q;exact q
 | rt w M=>rw [hq] at q;exact q
 | er x M=>rw [hq] at q;exact q
 | stuck=>rw [hq] at q;exact q
theorem for_key {K : PySem.W.Frag} {body : En -> Mem -> OutS} {it : Ev.It} {J : L2.It} {tg : List Nat} {tb : TS} (hb : ∀ D σ H, tSt K body D σ H -> tb D σ H) {ads : List Addr} {M : Mem} {ρ : En} {σ : L2.St} {H : Hp} {D : Ends} {f : Nat}
    (s:SR K ads M ρ σ H) (hJ:RIt K ads H it J) (q:OkS K ads H D (forGo body it tg f 0 ρ M)) :
    ∃ W:Nat->Nat->L2.St->Hp->Prop,(∃ m,W 0 m σ H)/\∀ i m σ H,W i m σ H ->
      (J.stop i H/\D.nx σ H)\/(J.go i H/\∃ N:L2.St->Hp->Prop,(∀ σ' H',N σ' H'->∃ m',m' < m/\W (i+1) m' σ' H')/\∀ x H',J.yld i H x H'->tG K tg x σ H' fun σ2 H2=>tb { D with nx:=N,ct:=N,bk:=D.nx } σ2 H2):=by
  refine ⟨fun i m σ' H'=>∃ ads' M' ρ',SR K ads' M' ρ' σ' H'/\Grow ads ads' H H'/\OkS K ads H D (forGo body it tg m i ρ' M'),⟨f,ads,M,ρ,s,Grow.refl _ _,q⟩,?_⟩
  rintro i m σ' H' ⟨ads',M',ρ',s',g',q'⟩
  obtain ⟨r1,r2⟩:=hJ i ads' H' M' g' s'.mem
  cases m with
  | zero =>
    unfold forGo at q'
    split at q'
    · rename_i hi
      exact .inl ⟨r1 hi,q' σ' H' ads' g' s'⟩
    · exact q'.elim
  | succ m =>
    unfold forGo at q'
    split at q'
    · rename_i hi
      exact .inl ⟨r1 hi,q' σ' H' ads' g' s'⟩
    · rename_i d hi
      obtain ⟨go,yl⟩:=r2 d hi
      cases hbd:bindT tg d ρ' with
      | none=>rw [hbd] at q';exact q'.elim
      | some ρ1 =>
        rw [hbd] at q'
        dsimp only at q'
        refine .inr ⟨go,fun σ2 H2=>∃ ads2 M2 ρ2,SR K ads2 M2 ρ2 σ2 H2/\Grow ads ads2 H H2/\OkS K ads H D (forGo body it tg m (i+1) ρ2 M2),fun σ2 H2 h=>⟨m,zqcu _,h⟩,fun x H2 y=>?_⟩
        obtain ⟨g2,m2,rd⟩:=yl x H2 y
        refine ⟨ads',M',ρ',d,s'.grow g2 m2,rd,ρ1,hbd,fun σ2 s2=>hb _ _ _ ⟨ads',M',ρ1,s2,?_⟩⟩
        have gg:=g'.trans g2
        cases hq:body ρ1 M' with
        | nx ρ3 M3=>rw [hq] at q';exact fun σ3 H3 ads3 g3 s3=>⟨ads3,M3,ρ3,s3,gg.trans g3,q'⟩
        | ct ρ3 M3=>rw [hq] at q';exact fun σ3 H3 ads3 g3 s3=>⟨ads3,M3,ρ3,s3,gg.trans g3,q'⟩
        | bk ρ3 M3=>rw [hq] at q';exact fun σ3 H3 ads3 g3 s3=>q' σ3 H3 ads3 (gg.trans g3) s3
        | rt w M3=>rw [hq] at q';exact PostW.shift (M:=M) (M2:=M') q' gg s.mem s2.mem
        | er x M3=>rw [hq] at q';exact EX.shift (show EX.post K ads H _ _ from q') gg
        | stuck=>rw [hq] at q';exact q'.elim
    · exact q'.elim
theorem st_e {K:PySem.W.Frag} {ads:List Addr} {M:Mem} {ρ:En} {σ:L2.St} {H:Hp} {D:Ends} {o:En->Mem->Out W} {k:W->Mem->OutS} {R:V->Hp->Prop} (s:SR K ads M ρ σ H) (q:OkS K ads H D (OutS.ofE (o ρ M) k)) (hk:∀ w M1 v H1 ads1,SR K ads1 M1 ρ σ H1->RW K ads1 H1 w v->OkS K ads1 H1 D (k w M1)->R v H1):tE K o σ H R:=by
 refine ⟨ads,M,ρ,s,?_⟩
 cases hq:o ρ M with
 | ok w M1 =>
  rw [hq] at q
  intro v H1 ads1 g1 m1 r1
  exact hk w M1 v H1 ads1 (s.grow g1 m1) r1.rw (OkS.shift (o:=k w M1) q g1 s.mem m1)
 | err _ _=>rw [hq] at q;exact q
 | stuck=>rw [hq] at q;exact q
theorem st_d {K:PySem.W.Frag} {ads:List Addr} {M:Mem} {ρ:En} {σ:L2.St} {H:Hp} {D:Ends} {c:C} {k:Ev.D->Mem->OutS} {R:V->Hp->Prop} (s:SR K ads M ρ σ H) (q:OkS K ads H D (OutS.ofE ((ev G c ρ M).bind own) k)) (hk:∀ (d:Ev.D) M1 v H1 ads1,SR K ads1 M1 ρ σ H1->RD K ads1 H1 d v->OkS K ads1 H1 D (k d M1)->R v H1):tE K (ev G c) σ H R:=by
 refine ⟨ads,M,ρ,s,?_⟩
 cases hq:ev G c ρ M with
 | ok w M1 =>
  rw [hq] at q
  intro v H1 ads1 g1 m1 r1
  have q:OkS K ads H D (OutS.ofE (own w M1) k):=q
  cases ho:own w M1 with
  | ok d M2 =>
   rw [ho] at q
   obtain ⟨ads2,g2,m2,rd⟩:=own_ok s.mem g1 m1 r1 ho
   exact hk d M2 v H1 ads2 (s.grow g2 m2) rd (OkS.shift (o:=k d M2) q g2 s.mem m2)
  | err _ _=>cases w <;> cases ho
  | stuck=>cases w <;> cases ho
 | err _ _=>rw [hq] at q;exact q
 | stuck=>rw [hq] at q;exact q
theorem tg_kind {tg:List Nat} {t:Expr} (h:chkTg cc tg t=true):(∃ x p,t=.Name x p)\/∃ es k p,t=.Tuple es k p:=by
 rcases tg with _|⟨i,_|⟨j,r⟩⟩
 ·exact absurd h zqaa
 ·exact .inl (onName_el (P:=fun t=>∃ x p,t=.Name x p) ((zqab _ _).mp h).1 fun x p _=>⟨x,p,rfl⟩)
 ·exact .inr (onTuple_el (P:=fun t=>∃ es k p,t=.Tuple es k p) h fun es k p _=>⟨es,k,p,rfl⟩)
theorem swap_comp {el:Expr} {gens:List Comprehension} {sc:Scope} {q p:Pos} {x:Str} {l:Nat} {env:Env}:swapsWith (.ListComp el gens sc q) (some (.Name x p)) l env=pure (env.blockKind == .function && env.kindOf x == some .local && p.line == q.line && !(sc.names.any fun (n,k)=>n == x && (k == .local || k == .cell))):=rfl
theorem s_asg {tg:List Nat} {c:C} {t v:Expr} {pos:Pos} (g:GoodH kk X cc G) (hg:PG X t (tG X.K tg)) (ht:chkTg cc tg t=true) (hv:okVal cc t v=true) (hlc:isComp v=true->∃ el gens sc q,v=.ListComp el gens sc q) (he:PE X v (tE X.K (ev G c))):PS X (.Assign [t] v pos) (tSt X.K (evS G (.asg tg c))):=by
 have key:∀ D σ H,tSt X.K (evS G (.asg tg c)) D σ H->tAsg (tE X.K (ev G c)) (tG X.K tg) D σ H:=by
  intro D σ H q
  obtain ⟨ads,M,ρ,s,q⟩:=q
  refine st_d s (by simp only [evS_asg] at q;exact q) fun d M1 v H1 ads1 s1 rd q1=>?_
  cases hb:bindT tg d ρ with
  | none=>simp only [hb] at q1;exact q1.elim
  | some ρ' =>
   simp only [hb] at q1
   exact ⟨ads1,M1,ρ,d,s1,rd,ρ',hb,fun σ' s'=>q1 σ' H1 ads1 (Grow.refl _ _) s'⟩
 rcases tg_kind ht with ⟨x,p,rfl⟩|⟨es,k,p,rfl⟩
 ·refine psI (ps_asg he hg ?_ (by unfold swappedStores;cases v <;> rfl) rfl) key
  show swapsWith v (some (.Name x p)) pos.line X.env=pure false
  cases hc:isComp v with
  | false=>exact swap_no hc _ _ _
  | true =>
   have hv:((!isComp v && !(false && isTuple v)) || (cc.names.lookup x == some .cell))=true:=hv
   rw [hc] at hv
   have hk:X.env.kindOf x=some .cell:=g.kinds x .cell (by simpa using hv)
   obtain ⟨el,gens,sc,q,rfl⟩:=hlc hc
   rw [swap_comp,hk,show ((some NameKind.cell:Option NameKind) == some NameKind.local)=false from rfl]
   simp
 ·have hv':((!isComp v && !(true && isTuple v)) || false)=true:=hv
  simp only [Bool.or_false,Bool.true_and,zqab,zqa0] at hv'
  refine psI (ps_asg he hg (show swapsWithSole [.Tuple es k p] v pos.line X.env=pure false from swap_no hv'.1 (some (.Tuple es k p)) pos.line X.env) ?_ rfl) key
  unfold swappedStores
  cases v <;> first | rfl | exact absurd (show true=false from hv'.2).symm zqaa
theorem s_put {o i v:C} {e f w:Expr} {sp pos:Pos} (g:Good kk X cc G) (hf:noSlice f=true) (ho:PE X e (tE X.K (ev G o))) (hi:PE X f (tE X.K (ev G i))) (hv:PE X w (tE X.K (ev G v))):PS X (.Assign [.Subscript e f sp] w pos) (tSt X.K (evS G (.put o i v))):=by
 have hun:=g.rh.un
 refine psI (ps_asg hv (pg_sub ho hi (set_ok (∅)) (by intro _;cases f <;> first | rfl | exact absurd (show false=true from hf) zqaa)) (show swapsWithSole [.Subscript e f sp] w pos.line X.env=pure false from (by cases w <;> rfl)) (by unfold swappedStores;cases w <;> rfl) rfl) fun D σ H q=>?_
 obtain ⟨ads,M,ρ,s,q⟩:=q
 refine st_d s (by simp only [evS_put] at q;exact q) fun d M1 v H1 ads1 s1 rd q1=>?_
 refine ⟨ads1,M1,ρ,s1,?_⟩
 cases h2:ev G o ρ M1 with
 | ok wo M2 =>
  rw [h2] at q1
  intro vo H2 ads2 g2 m2 ro
  have s2:=s1.grow g2 m2
  refine ⟨ads2,M2,ρ,s2,?_⟩
  have q2:OkS X.K ads1 H1 D (OutS.ofE (ev G i ρ M2) fun y M=>OutS.ofE (setW wo y d M) fun _ M=>.nx ρ M):=q1
  cases h3:ev G i ρ M2 with
  | ok wi M3 =>
   rw [h3] at q2
   intro vi H3 ads3 g3 m3 ri
   have s3:=s2.grow g3 m3
   have q3:OkS X.K ads1 H1 D (OutS.ofE (setW wo wi d M3) fun _ M=>.nx ρ M):=q2
   refine ⟨ads3,M3,wo,wi,d,m3,g3.rw ro.rw,ri.rw,(g2.trans g3).rd _ _ rd,?_⟩
   cases h4:setW wo wi d M3 with
   | ok u M4 =>
    rw [h4] at q3
    intro H4 ads4 g4 m4
    exact q3 σ H4 ads4 ((g2.trans g3).trans g4) (s3.grow g4 m4)
   | err _ _=>rw [h4] at q3;exact EX.shift (show EX.post X.K ads1 H1 _ _ from q3) (g2.trans g3)
   | stuck=>rw [h4] at q3;exact q3
  | err _ _=>rw [h3] at q2;exact EX.shift (show EX.post X.K ads1 H1 _ _ from q2) g2
  | stuck=>rw [h3] at q2;exact q2
 | err _ _=>rw [h2] at q1;exact q1
 | stuck=>rw [h2] at q1;exact q1
theorem s_expr {c:C} {e:Expr} {pos:Pos} (hc:isComp e=false) (he:PE X e (tE X.K (ev G c))):PS X (.Expr e pos) (tSt X.K (evS G (.expr c))):=by
 refine psI (ps_expr he (swap_no hc _ _ _)) fun D σ H q=>?_
 obtain ⟨ads,M,ρ,s,q⟩:=q
 exact st_e (k:=fun _ M=>.nx ρ M) s (by simp only [evS_expr] at q;exact q) fun w M1 v H1 ads1 s1 r1 q1=>q1 σ H1 ads1 (Grow.refl _ _) s1
theorem s_ret {c:C} {e:Expr} {pos:Pos} (he:PE X e (tE X.K (ev G c))):PS X (.Return (some e) pos) (tSt X.K (evS G (.ret c))):=by
 refine psI (ps_ret he) fun D σ H q=>?_
 obtain ⟨ads,M,ρ,s,q⟩:=q
 refine ⟨ads,M,ρ,s,?_⟩
 simp only [evS_ret] at q
 cases hq:ev G c ρ M with
 | ok w M1=>rw [hq] at q;exact q
 | err _ _=>rw [hq] at q;exact q
 | stuck=>rw [hq] at q;exact q
theorem s_if {t:Tst} {a b:List S} {c:Expr} {x y:List Stmt} {pos:Pos} (ht:PT X c (tTs X.K (evT G t))) (ha:PSs X x (tSt X.K (evSs G a))) (hb:PSs X y (tSt X.K (evSs G b))):PS X (.If c x y pos) (tSt X.K (evS G (.iff t a b))):=by
 refine psI (ps_if ht ha hb) fun D σ H q=>?_
 obtain ⟨ads,M,ρ,s,q⟩:=q
 refine ⟨ads,M,ρ,s,?_⟩
 simp only [evS_iff] at q
 cases hq:evT G t ρ M with
 | ok r M1 =>
  rw [hq] at q
  intro H1 ads1 g1 m1
  have q:OkS X.K ads H D (if r then evSs G a ρ M1 else evSs G b ρ M1):=q
  have q:=q.shift g1 s.mem m1
  cases r with
  | true=>rw [zqav rfl] at q ⊢;exact ⟨ads1,M1,ρ,s.grow g1 m1,q⟩
  | false=>rw [zqax (by simp)] at q ⊢;exact ⟨ads1,M1,ρ,s.grow g1 m1,q⟩
 | err _ _=>rw [hq] at q;exact q
 | stuck=>rw [hq] at q;exact q
theorem s_for {tg:List Nat} {k:SK} {src:List C} {b:List S} {t iter:Expr} {body:List Stmt} {pos:Pos} (g:Good kk X cc G) (hx:PassesOwn (model X.prog X.w) X.A X.env X.xe) (hs:PI X t iter (tI X.K (evSrc G k src))) (hn:notSet iter=true) (ht:chkTg cc tg t=true) (hb:PSs X body (tSt X.K (evSs G b))):PS X (.For t iter body [] pos) (tSt X.K (evS G (.forr tg k src b))):=by
 refine psI (ps_for hx g.calm hs (g_target g ht) hb (foldSet hn X.env)) fun D σ H q=>?_
 obtain ⟨ads,M,ρ,s,q⟩:=q
 refine ⟨ads,M,ρ,s,?_⟩
 simp only [evS_forr] at q
 cases hq:evSrc G k src ρ M with
 | ok it M1 =>
  rw [hq] at q
  intro J H1 ads1 g1 m1 rj
  exact for_key (fun D σ H h=>h) (s.grow g1 m1) rj (OkS.shift (o:=forGo (fun ρ M=>evSs G b ρ M) it tg (itLen M1 it) 0 ρ M1) q g1 s.mem m1)
 | err _ _=>rw [hq] at q;exact q
 | stuck=>rw [hq] at q;exact q
end
section
variable {kk:Nat} {X:Cx} {cc:CC} {G:Fns}
def XsOk (kk:Nat) (X:Cx) (xs:List (Str×Addr×List Str)):Prop:=∀ (x:Str) (a:Addr) (f:List Str),xs.lookup x=some (a,f)->∃ D fI fd sf oI j,j+1<=kk/\XIn X.K a D fI f/\X.K.lookup fI=some oI/\oI.cls=.type "function" /\ FnOk X.prog X.w X.K X.mg X.base CX0 j fI fd (sf::f) (spI X.K a D fI f)/\Binds X.K fd (sf::f) []/\X.mg x=some (.ref a)
theorem RDs.zip {K:PySem.W.Frag} {ads:List Addr} {H:Hp}:∀ {f:List Str} {ds:List D} {vs:List V},RDs K ads H ds vs->RKs K ads H (f.zip ds) (f.zip vs)
 | [],_,_,_=>by simp only [List.zip_nil_left];unfold RKs;rfl
 | _::_,[],vs,h=>by unfold RDs at h;subst h;simp only [List.zip_nil_right];unfold RKs;rfl
 | f::fs,d::ds,vs,h=>by
  unfold RDs at h
  obtain ⟨x,r,rfl,h1,h2⟩:=h
  simp only [List.zip_cons_cons]
  unfold RKs
  exact ⟨_,_,rfl,rfl,h1,RDs.zip h2⟩
theorem s_rse {a:Addr} {f:List Str} {x:Str} {c:List C} {e:Expr} {es:List Expr} {np cpos pos:Pos} {E:XK} (g:Good kk X cc G) (p:XPass X E) (im:∀ {K:PySem.W.Frag} {ads:List Addr} {H:Hp} {x:Exn} {M:Mem},EX.post K ads H x M->(exOf E).post K ads H x M) (hd:X.A.handled=none) (hxs:XsOk kk X cc.xs.cl) (hg:glob cc x=true) (hp:plainName x=true) (hl:cc.xs.cl.lookup x=some (a,f)) (hcl:c.length=f.length) (hfl:f.length<=100) (hst:notStar e=true) (hpl:(backTo cpos (starEach (e::es) X.env)).any (·.1)=false) (ha:PA X (e::es) (tDs X.K (evDs G c))):PS X (.Raise (some (.Call (.Name x np) (e::es) [] cpos)) none pos) (tSt X.K (evS G (.rse a f c))):=by
 obtain ⟨D,fI,fd,sf,oI,j,hj,xi,lo,co,F,hb,hm⟩:=hxs x a f hl
 refine psI (ps_raise p hd xi lo co F (g.room.mono hj) hb (zqat hfl (by decide)) (g.gl hg) hm ha (star_of hst es X.env) hpl (plain_dbg hp).1) fun Z σ H q=>?_
 obtain ⟨ads,M,ρ,s,q⟩:=q
 refine ⟨ads,M,ρ,s,?_⟩
 simp only [evS_rse] at q
 cases hd:evDs G c ρ M with
 | ok ds M1 =>
  rw [hd] at q
  intro vs H1 ads1 g1 m1 rd
  refine ⟨by rw [<- rd.len,evDs_len _ _ _ _ _ hd,hcl],fun e dx n1 n2 ne=>?_⟩
  have q:EX.post X.K ads H ⟨a,f.zip ds⟩ M1:=q
  have g2:=Grow.new1 (o:=.xd (f.zip vs)) m1 n2
  have m2:=m1.new1 (o:=.xd (f.zip vs)) n2
  have n3:upd H1 dx (.xd (f.zip vs)) e=none:=by rw [upd_ne (zqbd ne)];exact n1
  have g3:=Grow.new1 (o:=XO e a dx) m2 n3
  have m3:=m2.new1 (o:=XO e a dx) n3
  exact im q _ ads1 dx (f.zip vs) ((g1.trans g2).trans g3) m3 (by rw [upd_ne ne];exact upd_same) (RDs.zip ((g2.trans g3).rds _ _ rd))
 | err x M1=>rw [hd] at q;exact q
 | stuck=>rw [hd] at q;exact q.elim
end
end
section
variable [EX]
section
variable {kk:Nat} {G:Fns} {X:Cx} {cc:CC}
structure GoodS (kk:Nat) (X:Cx) (cc:CC) (G:Fns):Prop where
 g:Good kk X cc G
 bk:X.env.blockKind=.function
 nx:PassesOwn (model X.prog X.w) X.A X.env X.xe
 xp:∃ E:XK,XPass X E/\∀ {K:PySem.W.Frag} {ads:List Addr} {H:Hp} {x:Exn} {M:Mem},EX.post K ads H x M->(exOf E).post K ads H x M
 xs:XsOk kk X cc.xs.cl
 stk:X.stack=X.env::X.outer/\X.env.frame=some X.env.locals
theorem comp_list {v:Expr} (h:(!isComp v || Nat.beq v.ctorIdx 8)=true) (hc:isComp v=true):∃ el gens sc q,v=.ListComp el gens sc q:=by
 rw [hc] at h
 exact Expr.ListComp.elim (motive_1:=fun v=>∃ el gens sc q,v=.ListComp el gens sc q) v (Nat.eq_of_beq_eq_true h) fun el gens sc q=>⟨el,gens,sc,q,rfl⟩
end
mutual
theorem h_s {kk:Nat} {G:Fns}:∀ (s:S) (cc:CC) (X:Cx) (st:Stmt),GoodH kk X cc G->hotS s=true->chkS cc s st=true->PS X st (@tSt never X.K (evS G s))
 | .asg tg c,cc,X,st,g,k,h=>stAssign_el (P:=fun st=>PS X st _) h fun ts v pos h=>by
  letI:=never
  rcases ts with _|⟨t,_|⟨_,_⟩⟩ <;> first | exact absurd h zqaa | skip
  simp only [zqab] at h
  have k:(Nat.beq tg.length 1 && hotC c)=true:=k
  replace k:=(zqab _ _).mp k
  rcases tg with _|⟨i,_|⟨_,_⟩⟩ <;> first | exact absurd k.1 zqaa | skip
  exact s_asg g (g_target1 g h.1.1.1) h.1.1.1 h.1.1.2 (comp_list h.1.2) (h_e c cc X v g k.2 h.2)
 | .iff t a b,cc,X,st,g,k,h=>stIf_el (P:=fun st=>PS X st _) h fun c x y pos h=>by
  letI:=never
  simp only [zqab] at h
  have k:(hotT t && hotSs a && hotSs b)=true:=k
  simp only [zqab] at k
  exact s_if (h_t t cc X c g k.1.1 h.1.1) (h_ss a cc X x g k.1.2 h.1.2) (h_ss b cc X y g k.2 h.2)
 | .ret c,cc,X,st,g,k,h=>stReturn_el (P:=fun st=>PS X st _) h fun v pos h=>by
  letI:=never
  cases v with
  | none=>exact absurd h zqaa
  | some e=>exact s_ret (h_e c cc X e g k h)
 | .expr c,cc,X,st,g,k,h=>stExpr_el (P:=fun st=>PS X st _) h fun e pos h=>by
  letI:=never
  simp only [zqab,zqa0] at h
  exact s_expr h.1 (h_e c cc X e g k h.2)
 | .pass,cc,X,st,g,k,h=>stPass_el (P:=fun st=>PS X st _) h fun pos h=>psI ps_pass fun D σ H q=>by
  obtain ⟨ads,M,ρ,s,q⟩:=q
  exact q σ H ads (Grow.refl _ _) s
 | .asgC i c,cc,X,st,g,k,h=>absurd k zqaa
 | .par i j a b,cc,X,st,g,k,h=>absurd k zqaa
 | .put o i v,cc,X,st,g,k,h=>absurd k zqaa
 | .dput o i v,cc,X,st,g,k,h=>absurd k zqaa
 | .retN,cc,X,st,g,k,h=>absurd k zqaa
 | .forr tg sk src b,cc,X,st,g,k,h=>absurd k zqaa
 | .whl n t b,cc,X,st,g,k,h=>absurd k zqaa
 | .rse a f c,cc,X,st,g,k,h=>absurd k zqaa
 | .tryc b cb mt j hh,cc,X,st,g,k,h=>absurd k zqaa
 | .never,cc,X,st,g,k,h=>absurd k zqaa
 | .brk,cc,X,st,g,k,h=>absurd k zqaa
 | .cont,cc,X,st,g,k,h=>absurd k zqaa
theorem h_ss {kk:Nat} {G:Fns}:∀ (ss:List S) (cc:CC) (X:Cx) (st:List Stmt),GoodH kk X cc G->hotSs ss=true->chkSs cc ss st=true->PSs X st (@tSt never X.K (evSs G ss))
 | [],cc,X,[],g,k,h=>pssI pss_nil fun D σ H q=>by
  obtain ⟨ads,M,ρ,s,q⟩:=q
  exact q σ H ads (Grow.refl _ _) s
 | [],cc,X,_::_,g,k,h=>by cases h
 | _::_,cc,X,[],g,k,h=>by cases h
 | s::ss,cc,X,t::ts,g,k,h=>by
  letI:=never
  have h':(chkS cc s t && chkSs cc ss ts)=true:=h
  simp only [zqab] at h'
  have k:(hotS s && hotSs ss)=true:=k
  simp only [zqab] at k
  exact pssI (pss_cons (h_s s cc X t g k.1 h'.1) (h_ss ss cc X ts g k.2 h'.2)) fun D σ H q=>s_seq q
end
section
variable {kk:Nat} {X:Cx} {cc:CC} {G:Fns}
theorem SR.unset {K:PySem.W.Frag} {ads:List Addr} {M:Mem} {ρ:En} {σ:L2.St} {H:Hp} (s:SR K ads M ρ σ H) (i:Nat):SR K ads M (ρ.set i none) (σ.set i none) H :=
 ⟨s.mem,fun j d' e=>by
  by_cases h:i=j
  ·subst h
   rw [List.getElem?_set] at e
   split at e
   ·split at e <;> cases e
   ·exact absurd rfl ‹_›
  ·rw [zqbe h] at e ⊢
   exact s.en j d' e,by rw [zqb5,zqb5];exact s.ln⟩
theorem Good.nox (g:Good kk X cc G):@Good never kk X.nox cc G :=
 @Good.mk never kk X.nox cc G ⟨g.rh,g.N,g.nd,g.kinds,g.fnc,g.blt,g.gls,g.kit,g.cat,g.hfs⟩ g.calm g.room g.fns ⟨E0,(by rintro _ _ _ _ _ _ _ ⟨_,_,_,_,_,_,_,_,_,_,_,_,_,h⟩;exact h.elim),fun h=>h.elim⟩
theorem GoodH.hx (g:GoodH kk X cc G) (e:Addr):GoodH kk (X.hx e) cc G:=⟨⟨g.rh.dp,g.rh.un⟩,g.N,g.nd,g.kinds,g.fnc,g.blt,g.gls,g.kit,g.cat,g.hfs⟩
theorem try_err {b:TB} {cb n:Str} {mt:List (Addr×List Str)} {j:Nat} {h:List S} {tp hp:Pos} {b0:Stmt} {hb:List Stmt} {pins:List (Addr×Obj)} {s2:Shared} {σ:L2.St} {H0 H2:Hp} {Z:Ends} {ads0 ads2:List Addr} {ρ:En} {M0 M2:Mem} {x:Exn} {ea dx T:Addr} {gs:List (Str×V)} {lo:Nat} (g:GoodS kk X cc G) (hcb:glob cc cb=true) (hpl:plainName cb=true) (hj:cc.N[j]?=some n) (hl:cc.names.lookup n=some .local) (hmt:(mt.all fun p=>cc.xs.ct.contains (cb,p.1,p.2))=true) (hot:hotSs h=true) (hck:chkSs cc h (b0::hb)=true) (sr:SR X.K ads0 M0 ρ σ H0) (I2:Inv X pins σ H2 s2) (xa:XAt s2.heap lo ea x.cls dx (some T)) (hea:H2 ea=some (XO ea x.cls dx)) (hT:TrOk X pins H2 (some T)) (l2:lo<=s2.heap.objs.size) (gr:Grow ads0 ads2 H0 H2) (hn0:ea∉ads0->H0 ea=none) (m2:MRel X.K ads2 H2 M2) (hd:H2 dx=some (.xd gs)) (rk:RKs X.K ads2 H2 x.fs gs) (hm:mt.lookup x.cls=some (x.fs.map (·.1))) (q:OkS X.K ads0 H0 Z ((evSs G h (ρ.set j (some (.adr M2.length))) (M2++[.xc x.cls x.fs])).hdl j)):wpAny (model X.prog X.w) X.A (noteFrame (.ref ea) X.env) (fun _ s2=>wpAny (model X.prog X.w) X.A (setFlight (.ref ea) none) (fun _ s3=>wpAny (model X.prog X.w) X.A (handleBy (.ref ea) X.env [.ExceptHandler (some (.Name cb tp)) (some n) (b0::hb) hp]) (SP X pins Z) X.xe s3) X.xe s2) X.xe s2:=by
 obtain ⟨B,D,fI,mB,k1,k2,xi⟩:=g.g.cat cb x.cls (x.fs.map (·.1)) (by have:=zqa5.mp hmt (x.cls,x.fs.map (·.1)) (mem_lookA hm);simpa using this)
 refine handler_ok I2 g.stk xa hea hT l2 (g.g.gl hcb) mB (plain_dbg hpl).1 k1 k2 (by rw [g.g.N];exact g.g.nd) (by rw [g.g.N];exact hj) (g.g.kinds n _ hl) (h_ss h cc (X.hx ea) (b0::hb) (g.g.toGoodH.hx ea) hot hck) ?_
 have mp:MRel X.K (ads2++[ea]) H2 (M2++[.xc x.cls x.fs]):=m2.pushX (.inr ⟨x.cls,dx,x.fs,rfl,hea⟩) ⟨dx,gs,hea,hd,rk,D,fI,xi⟩
 have gr2:Grow ads0 (ads2++[ea]) H0 H2:=by
  obtain ⟨r,e⟩:=gr.pre
  refine ⟨⟨r++[ea],by rw [e,zqb8]⟩,fun b hb nb=>?_,gr.kept,gr.tups,gr.frz⟩
  rcases zqbx.mp hb with z | z
  ·exact gr.new b z nb
  ·obtain rfl:b=ea:=by simpa using z
   exact hn0 nb
 have sr2:SR X.K (ads2++[ea]) (M2++[.xc x.cls x.fs]) (ρ.set j (some (.adr M2.length))) (σ.set j (some (.ref ea))) H2:=(sr.grow gr2 mp).set j (by unfold RD;exact ⟨ea,rfl,by rw [<- m2.len];simp⟩)
 refine ⟨ads2++[ea],_,_,sr2,?_⟩
 cases ho:evSs G h (ρ.set j (some (.adr M2.length))) (M2++[.xc x.cls x.fs]) with
 | nx ρ' M' =>
  rw [ho] at q
  exact fun σ' H' ads' g' s'=>q (σ'.set j none) H' ads' (gr2.trans g') (s'.unset j)
 | rt w M'=>rw [ho] at q;exact q.elim
 | bk _ _=>rw [ho] at q;exact q.elim
 | ct _ _=>rw [ho] at q;exact q.elim
 | er _ _=>rw [ho] at q;exact q.elim
 | stuck=>rw [ho] at q;exact q.elim
theorem try_call {b:TB} {cb n:Str} {mt:List (Addr×List Str)} {j:Nat} {h:List S} {tp hp p cp:Pos} {b0:Stmt} {hb:List Stmt} {pins:List (Addr×Obj)} {s:Shared} {σ:L2.St} {H:Hp} {Z:Ends} {ads:List Addr} {ρ:En} {M:Mem} {e:Expr} {es:List Expr} {x:Str} {R:Value->Shared->Prop} (g:GoodS kk X cc G) (hcb:glob cc cb=true) (hpl:plainName cb=true) (hj:cc.N[j]?=some n) (hl:cc.names.lookup n=some .local) (hmt:(mt.all fun p=>cc.xs.ct.contains (cb,p.1,p.2))=true) (hot:hotSs h=true) (hck:chkSs cc h (b0::hb)=true) (hf:cc.fs[b.fn]?=some (x,b.args.length)) (hg:glob cc x=true) (hp':plainName x=true) (hc:chks cc b.args (e::es)=true) (sr:SR X.K ads M ρ σ H) (I:Inv X pins σ H s) (q:OkS X.K ads H Z (evS G (.tryc b cb mt j h) ρ M)) (hr:∀ w M2 v u s2 H2 ads1 H1 ads2,Grow ads ads1 H H1->Grow ads1 ads2 H1 H2->MRel X.K ads2 H2 M2->MRel X.K ads1 H1 M2\/True->RWn X.K ads2 H1 H2 w v->RelV v u->Inv X pins σ H2 s2->(∃ M1,MRel X.K ads1 H1 M1)->OkS X.K ads H Z (b.got w M2 ρ)->R u s2):wpAny (model X.prog X.w) X.A (eval (.Call (.Name x p) (e::es) [] cp) X.env) R (fun ev s1=>wpAny (model X.prog X.w) X.A (noteFrame ev X.env) (fun _ s2=>wpAny (model X.prog X.w) X.A (setFlight ev none) (fun _ s3=>wpAny (model X.prog X.w) X.A (handleBy ev X.env [.ExceptHandler (some (.Name cb tp)) (some n) (b0::hb) hp]) (SP X pins Z) X.xe s3) X.xe s2) X.xe s1) s:=by
 obtain ⟨fa,fd,ps,F,hm,hk,hbd⟩:=g.g.fns b.fn x _ hf
 have hst:notStar e=true/\chks cc b.args.tail es=true:=by
  cases ha:b.args with
  | nil=>rw [ha] at hc;cases hc
  | cons c cs =>
   rw [ha] at hc
   have h':(notStar e && chk cc c e && chks cc cs es)=true:=hc
   simp only [zqab] at h'
   exact ⟨h'.1.1,h'.2⟩
 rw [evS_tryc] at q
 cases hd:evDs G b.args ρ M with
 | err _ _=>rw [hd] at q;exact q.elim
 | stuck=>rw [hd] at q;exact q.elim
 | ok ds M1 =>
  rw [hd] at q
  have q:OkS X.K ads H Z (match G b.fn ds M1 with
   | .ok w M2=>b.got w M2 ρ
   | .err x M2=>if mt.lookup x.cls=some (x.fs.map (·.1)) then (evSs G h (ρ.set j (some (.adr M2.length))) (M2++[.xc x.cls x.fs])).hdl j else .stuck
   | .stuck=>.stuck):=q
  have ha:=ok_ds b.args never cc X.nox (e::es) g.g.nox hc
  refine zqb3 (ld_glob I (g.g.gl hg) hm ?_ (plain_dbg hp').1)
  refine zqc5 (h₀:=X.base) I.ok.mod.kin hk (zqbl (ha cp pins s σ H (fun vs H1=>∃ ads1,Grow ads ads1 H H1/\MRel X.K ads1 H1 M1/\RDs X.K ads1 H1 ds vs) (I.wish _) ⟨ads,M,ρ,sr,by rw [hd];exact fun vs H1 ads1 g1 m1 r1=>⟨ads1,g1,m1,r1⟩⟩) (fun us s1 ⟨vs,H1,I1,r,ads1,g1,m1,r1⟩=>⟨I1.kIn,?_⟩) fun _ _ z=>z.elim) (star_of hst.1 es X.env) (noStar_any hst.2 X.env cp)
  have I1:=I1.unwish
  let Q1:VK:=fun v H2=>∃ w M2 ads2,G b.fn ds M1=.ok w M2/\Grow ads1 ads2 H1 H2/\MRel X.K ads2 H2 M2/\RWn X.K ads2 H1 H2 w v
  let E1:XK:=fun cls dxo H2=>∃ x M2 ads2 dx gs,cls=.ref x.cls/\dxo=some dx/\G b.fn ds M1=.err x M2/\Grow ads1 ads2 H1 H2/\MRel X.K ads2 H2 M2/\H2 dx=some (.xd gs)/\RKs X.K ads2 H2 x.fs gs
  have hsp:spD X.K b.args.length (G b.fn) vs H1 Q1 E1:=by
   refine ⟨ads1,M1,ds,m1,r1,evDs_len _ _ _ _ _ hd,?_⟩
   cases hG:G b.fn ds M1 with
   | ok w M2=>exact fun v H2 ads2 g2 m2 r2=>⟨w,M2,ads2,hG,g2,m2,r2⟩
   | err x M2=>exact fun H2 ads2 dx gs g2 m2 hx rk=>⟨x,M2,ads2,dx,gs,rfl,rfl,hG,g2,m2,hx,rk⟩
   | stuck=>rw [hG] at q;exact q.elim
  have hlen:us.length=ps.length:=by rw [<- r.length];exact F.len _ _ _ _ hsp
  refine wpAny_call (zqca (F.run X.A X.stack s1 H1 ⟨us,[]⟩ us vs Q1 E1 g.g.room I1.env0 (by have:=hbd s1 us I1.kIn (by rw [zqbs];exact hlen);rw [zqbs] at this;exact this) r hsp) fun r s2 hq=>?_)
  cases r with
  | error ev =>
   obtain ⟨ea,C',dx,T,H2,rfl,os,bare,un,hok,xa,hea,hT,x,M2,ads2,dx',gs,ec,ed,hG,g2,m2,hx,rk⟩:=hq
   cases ec;cases ed
   rw [hG] at q
   have q:OkS X.K ads H Z (if mt.lookup x.cls=some (x.fs.map (·.1)) then (evSs G h (ρ.set j (some (.adr M2.length))) (M2++[.xc x.cls x.fs])).hdl j else .stuck):=q
   split at q
   ·rename_i hlk
    have I2:Inv X pins σ H2 s2:=I1.call' os un hok bare (fun b z=>absurd z (by simp))
    have xb:=xa
    obtain ⟨le,oe,vs',k1,_⟩:=xb
    have l2:s1.heap.objs.size<=s2.heap.objs.size:=zqat le (zqbq (zqaf k1))
    have lT:s1.heap.objs.size<=T:=by obtain ⟨_,_,_,_,_,_,_,_,_,z,_⟩:=xa;exact z
    have hn0:ea∉ads->H ea=none:=fun nb=>by
     have z:H1 ea=none:=I1.hok.fresh le
     cases w:H ea with
     | none=>rfl
     | some o=>rw [g1.kept ea o nb w] at z;cases z
    exact try_err (b:=b) g hcb hpl hj hl hmt hot hck sr I2 xa hea (TrOk.new I1 lT hT) l2 (g1.trans g2) hn0 m2 hx rk hlk q
   ·exact q.elim
  | ok fl =>
   cases fl with
   | next=>exact hq.elim
   | brk=>exact hq.elim
   | cont=>exact hq.elim
   | ret u =>
    obtain ⟨v,H2,I2,rv,w,M2,ads2,hG,g2,m2,rw2⟩:=I1.after hq
    rw [hG] at q
    exact hr w M2 v u s2 H2 ads1 H1 ads2 g1 g2 m2 (.inr True.intro) rw2 rv I2 ⟨M1,m1⟩ q
theorem chkFn_el {f:Nat} {cs:List C} {P:Expr->Prop} {e:Expr} (h:chkFn cc f cs e=true) (k:∀ x p a as cp,cc.fs[f]?=some (x,cs.length)->glob cc x=true->plainName x=true->chks cc cs (a::as)=true->P (.Call (.Name x p) (a::as) [] cp)):P e:=by
 refine onCall_el (P:=P) h fun fe args kws cp h=>?_
 simp only [zqab] at h
 obtain ⟨⟨⟨h1,h2⟩,h3⟩,h4⟩:=h
 obtain rfl:=zqbw.mp h1
 rcases args with _|⟨a,as⟩
 ·exact absurd (show false=true from h2) zqaa
 ·refine onName_el (P:=fun fe=>P (.Call fe (a::as) [] cp)) h3 fun x p h3=>?_
  simp only [zqab,zqa8] at h3
  exact k x p a as cp h3.1.1 h3.1.2 h3.2 h4
theorem s_try {b:TB} {cb:Str} {mt:List (Addr×List Str)} {j:Nat} {h:List S} {st:Stmt} {te:Expr} {n:Str} {hb:List Stmt} {hp pos:Pos} (g:GoodS kk X cc G) (hk:(chkTB cc b st && (onName te fun y _=>y == cb && glob cc y && plainName y) && cc.N[j]? == some n && cc.names.lookup n == some .local && mt.all (fun p=>cc.xs.ct.contains (cb,p.1,p.2)) && hotSs h && !hb.isEmpty && chkSs cc h hb)=true):PS X (.Try [st] [.ExceptHandler (some te) (some n) hb hp] [] [] pos) (tSt X.K (evS G (.tryc b cb mt j h))):=by
 simp only [zqab,zqa8] at hk
 obtain ⟨⟨⟨⟨⟨⟨⟨k1,k2⟩,k3⟩,k4⟩,k5⟩,k6⟩,k7⟩,k8⟩:=hk
 rcases hb with _|⟨b0,hb⟩
 ·exact absurd (show false=true from k7) zqaa
 refine onName_el (P:=fun te=>PS X (.Try [st] [.ExceptHandler (some te) (some n) (b0::hb) hp] [] [] pos) _) k2 fun y tp k2=>?_
 simp only [zqab] at k2
 obtain ⟨⟨z1,z2⟩,z3⟩:=k2
 obtain rfl:=eq_of_beq z1
 intro pins s σ H Z I q
 obtain ⟨ads,M,ρ,sr,q⟩:=q
 have hN:X.N.Nodup:=by rw [g.g.N];exact g.g.nd
 cases b with
 | asg i f cs =>
  refine stAssign_el (P:=fun st=>wpAny _ _ (exec (.Try [st] _ [] [] pos) _) _ _ _) k1 fun ts v ap k1=>?_
  rcases ts with _|⟨t,_|⟨_,_⟩⟩ <;> first | exact absurd k1 zqaa | skip
  replace k1:=(zqab _ _).mp k1
  refine onName_el (P:=fun t=>wpAny _ _ (exec (.Try [.Assign [t] v ap] _ [] [] pos) _) _ _ _) k1.1 fun x px h1=>?_
  simp only [zqab,zqa8] at h1
  refine chkFn_el (P:=fun v=>wpAny _ _ (exec (.Try [.Assign [.Name x px] v ap] _ [] [] pos) _) _ _ _) k1.2 fun fx fp a as cp f1 f2 f3 f4=>?_
  refine wpAny_Try_except (zqcd (wpAny_Assign_Name (try_call (b:=.asg i f cs) g z2 z3 k3 k4 k5 k6 k8 f1 f2 f3 f4 sr I q fun w M2 v u s2 H2 ads1 H1 ads2 g1 g2 m2 _ rw2 rv I2 ⟨M1,m1⟩ q2=>?_) rfl))
  have q2:OkS X.K ads H Z (OutS.ofE (own w M2) fun d M=>.nx (ρ.set i (some d)) M):=q2
  cases ho:own w M2 with
  | err _ _=>cases w <;> cases ho
  | stuck=>cases w <;> cases ho
  | ok d M3 =>
   rw [ho] at q2
   obtain ⟨ads3,g3,m3,rd⟩:=own_ok m1 g2 m2 rw2 ho
   exact store_ok I2 hN (by rw [g.g.N];exact h1.1) (.inl (g.g.kinds x _ h1.2)) rv (fun s3 I3=>zqbj (zqbj ⟨_,H2,I3,q2 _ H2 ads3 (g1.trans g3) ((sr.grow (g1.trans g3) m3).set i rd)⟩)) (.inr (g.g.kinds x _ h1.2))
 | asg1 i f cs =>
  refine stAssign_el (P:=fun st=>wpAny _ _ (exec (.Try [st] _ [] [] pos) _) _ _ _) k1 fun ts v ap k1=>?_
  rcases ts with _|⟨t,_|⟨_,_⟩⟩ <;> first | exact absurd k1 zqaa | skip
  replace k1:=(zqab _ _).mp k1
  refine onName_el (P:=fun t=>wpAny _ _ (exec (.Try [.Assign [t] v ap] _ [] [] pos) _) _ _ _) k1.1 fun x px h1=>?_
  simp only [zqab,zqa8] at h1
  refine onTuple_el (P:=fun v=>wpAny _ _ (exec (.Try [.Assign [.Name x px] v ap] _ [] [] pos) _) _ _ _) k1.2 fun es kt tpos k9=>?_
  rcases es with _|⟨e1,_|⟨_,_⟩⟩ <;> first | exact absurd k9 zqaa | skip
  refine chkFn_el (P:=fun v=>wpAny _ _ (exec (.Try [.Assign [.Name x px] (.Tuple [v] kt tpos) ap] _ [] [] pos) _) _ _ _) k9 fun fx fp a as cp f1 f2 f3 f4=>?_
  refine wpAny_Try_except (zqcd (wpAny_Assign_Name (wpAny_Tuple_spliced (Calls.spliced_cons (try_call (b:=.asg1 i f cs) g z2 z3 k3 k4 k5 k6 k8 f1 f2 f3 f4 sr I q fun w M2 v u s2 H2 ads1 H1 ads2 g1 g2 m2 _ rw2 rv I2 ⟨M1,m1⟩ q2=>?_))) rfl))
  refine Calls.spliced_nil ⟨by show 1<=sizeLine;decide,?_⟩
  have hf:H2 s2.heap.objs.size=none:=I2.hok.fresh (zqae _)
  have q2:OkS X.K ads H Z (OutS.ofE (own w M2) fun d M=>.nx (ρ.set i (some (.tup [d]))) M):=q2
  cases ho:own w M2 with
  | err _ _=>cases w <;> cases ho
  | stuck=>cases w <;> cases ho
  | ok d M3 =>
   rw [ho] at q2
   obtain ⟨ads3,g3,m3,rd⟩:=own_ok m1 g2 m2 rw2 ho
   have g4:=Grow.new1 (o:=.tup [v]) m3 hf
   have m4:=m3.new1 (o:=.tup [v]) hf
   have gg:=(g1.trans g3).trans g4
   have rt:RD X.K ads3 (upd H2 s2.heap.objs.size (.tup [v])) (.tup [d]) (.ref s2.heap.objs.size):=by
    unfold RD
    exact ⟨_,_,rfl,upd_same,.one (g4.rd _ _ rd)⟩
   refine store_ok (H:=upd H2 s2.heap.objs.size (.tup [v])) (v:=.ref s2.heap.objs.size) (I2.laid (t':=s2.toks) (fun b u e=>zqah _ e) (zqae _) ?_) hN (by rw [g.g.N];exact h1.1) (.inl (g.g.kinds x _ h1.2)) rfl (fun s3 I4=>zqbj (zqbj ⟨_,_,I4,q2 _ _ ads3 gg ((sr.grow gg m4).set i rt)⟩)) (.inr (g.g.kinds x _ h1.2))
   exact ⟨by show 1<=sizeLine;decide,[u],.cons rv .nil,⟨_,zqa7 _ rfl,rfl,_,rfl⟩⟩
 | exp f cs =>
  refine stExpr_el (P:=fun st=>wpAny _ _ (exec (.Try [st] _ [] [] pos) _) _ _ _) k1 fun v ap k1=>?_
  refine chkFn_el (P:=fun v=>wpAny _ _ (exec (.Try [.Expr v ap] _ [] [] pos) _) _ _ _) k1 fun fx fp a as cp f1 f2 f3 f4=>?_
  refine wpAny_Try_except (zqcd (wpAny_Expr_any (try_call (b:=.exp f cs) g z2 z3 k3 k4 k5 k6 k8 f1 f2 f3 f4 sr I q fun w M2 v u s2 H2 ads1 H1 ads2 g1 g2 m2 _ rw2 rv I2 ⟨M1,m1⟩ q2=>?_) I.quiet rfl))
  have q2:OkS X.K ads H Z (.nx ρ M2):=q2
  exact zqbj (zqbj ⟨_,H2,I2,q2 _ H2 ads2 (g1.trans g2) (sr.grow (g1.trans g2) m2)⟩)
end
mutual
theorem ok_s {kk:Nat} {G:Fns}:∀ (s:S) (cc:CC) (X:Cx) (st:Stmt),GoodS kk X cc G->chkS cc s st=true->PS X st (tSt X.K (evS G s))
 | .asg tg c,cc,X,st,g,h=>stAssign_el (P:=fun st=>PS X st _) h fun ts v pos h=>by
  rcases ts with _|⟨t,_|⟨_,_⟩⟩ <;> first | exact absurd h zqaa | skip
  simp only [zqab] at h
  exact s_asg g.g.toGoodH (g_target g.g h.1.1.1) h.1.1.1 h.1.1.2 (comp_list h.1.2) (ok_e c _ cc X v g.g h.2)
 | .asgC i c,_,_,_,_,h=>absurd (show false=true from h) zqaa
 | .par i j a b,_,_,_,_,h=>absurd (show false=true from h) zqaa
 | .put o i v,cc,X,st,g,h=>stAssign_el (P:=fun st=>PS X st _) h fun ts w pos h=>by
  rcases ts with _|⟨t,_|⟨_,_⟩⟩ <;> first | exact absurd h zqaa | skip
  refine onSubscript_el (P:=fun t=>PS X (.Assign [t] w pos) _) h fun e f sp h=>?_
  simp only [zqab] at h
  obtain ⟨⟨⟨h1,h3⟩,h4⟩,h5⟩:=h
  exact s_put g.g h1 (ok_e o _ cc X e g.g h3) (ok_e i _ cc X f g.g h4) (ok_e v _ cc X w g.g h5)
 | .dput o i v,_,_,_,_,h=>absurd (show false=true from h) zqaa
 | .expr c,cc,X,st,g,h=>stExpr_el (P:=fun st=>PS X st _) h fun e pos h=>by
  simp only [zqab,zqa0] at h
  exact s_expr h.1 (ok_e c _ cc X e g.g h.2)
 | .ret c,cc,X,st,g,h=>stReturn_el (P:=fun st=>PS X st _) h fun v pos h=>by
  cases v with
  | none=>exact absurd h zqaa
  | some e=>exact s_ret (ok_e c _ cc X e g.g h)
 | .retN,cc,X,st,g,h=>stReturn_el (P:=fun st=>PS X st _) h fun v pos h=>by
  cases v with
  | some e=>exact absurd h zqaa
  | none =>
   refine psI ps_retN fun D σ H q=>?_
   obtain ⟨ads,M,ρ,s,q⟩:=q
   exact q .non H ads (Grow.refl _ _) s.mem (show RD X.K ads H .non .non from rd_non)
 | .iff t a b,cc,X,st,g,h=>stIf_el (P:=fun st=>PS X st _) h fun c x y pos h=>by
  simp only [zqab] at h
  exact s_if (ok_t t _ cc X c g.g h.1.1) (ok_ss a cc X x g h.1.2) (ok_ss b cc X y g h.2)
 | .forr tg k src b,cc,X,st,g,h=>stFor_el (P:=fun st=>PS X st _) h fun t iter body els pos h=>by
  simp only [zqab,zqbw] at h
  obtain ⟨⟨⟨rfl,h1⟩,h2⟩,h3⟩:=h
  obtain ⟨hs,hn⟩:=ok_src src k _ cc X t iter g.g h1
  exact s_for g.g g.nx hs hn h2 (ok_ss b cc X body g h3)
 | .whl n t b,_,_,_,_,h=>absurd (show false=true from h) zqaa
 | .rse a f c,cc,X,st,g,h=>stRaise_el (P:=fun st=>PS X st _) h fun e k pos h=>by
  replace h:=(zqab _ _).mp h
  cases k with
  | some _=>exact absurd h.1 zqaa
  | none =>
   cases e with
   | none=>exact absurd h.2 zqaa
   | some e =>
    refine onCall_el (P:=fun e=>PS X (.Raise (some e) none pos) _) h.2 fun fe args kws cpos h=>?_
    simp only [zqab] at h
    obtain ⟨⟨⟨⟨⟨h1,h2⟩,hcl⟩,hfl⟩,hne⟩,h3⟩:=h
    obtain rfl:=zqbw.mp h1
    refine onName_el (P:=fun fe=>PS X (.Raise (some (.Call fe args [] cpos)) none pos) _) h2 fun x np h2=>?_
    simp only [zqab,zqa8] at h2
    obtain ⟨⟨k1,k2⟩,k3⟩:=h2
    have hcl:=Nat.eq_of_beq_eq_true hcl
    rcases args with _|⟨a1,as⟩
    ·exact absurd (show false=true from hne) zqaa
    ·rcases c with _|⟨c1,cs⟩
     ·cases h3
     ·have h4:(notStar a1 && chk cc c1 a1 && chks cc cs as)=true:=h3
      simp only [zqab] at h4
      obtain ⟨E,xp,im⟩:=g.xp
      exact s_rse g.g xp im g.g.room.hd g.xs k1 k2 k3 hcl (Nat.le_of_ble_eq_true hfl) h4.1.1 (noStar_any h3 X.env cpos) (ok_ds (c1::cs) _ cc X (a1::as) g.g h3)
 | .tryc b cb mt j hh,cc,X,st,g,h=>stTry_el (P:=fun st=>PS X st _) h fun body hs els fin pos h=>by
  simp only [zqab,zqbw] at h
  obtain ⟨⟨rfl,rfl⟩,h⟩:=h
  rcases body with _|⟨st,_|⟨_,_⟩⟩ <;> first | exact absurd h zqaa | skip
  rcases hs with _|⟨⟨te,n,hb,hp⟩,_|⟨_,_⟩⟩ <;> first | exact absurd h zqaa | skip
  ·cases te with
   | none=>exact absurd h zqaa
   | some te =>
    cases n with
    | none=>exact absurd h zqaa
    | some n=>exact s_try g h
  ·cases te with
   | none=>exact absurd h zqaa
   | some te =>
    cases n with
    | none=>exact absurd h zqaa
    | some n=>exact absurd h zqaa
 | .never,cc,X,st,g,h=>psI ps_never fun D σ H q=>by
  obtain ⟨ads,M,ρ,s,q⟩:=q
  exact q
 | .pass,cc,X,st,g,h=>stPass_el (P:=fun st=>PS X st _) h fun pos h=>psI ps_pass fun D σ H q=>by
  obtain ⟨ads,M,ρ,s,q⟩:=q
  exact q σ H ads (Grow.refl _ _) s
 | .brk,cc,X,st,g,h=>stBreak_el (P:=fun st=>PS X st _) h fun pos h=>psI ps_break fun D σ H q=>by
  obtain ⟨ads,M,ρ,s,q⟩:=q
  exact q σ H ads (Grow.refl _ _) s
 | .cont,cc,X,st,g,h=>stContinue_el (P:=fun st=>PS X st _) h fun pos h=>psI ps_continue fun D σ H q=>by
  obtain ⟨ads,M,ρ,s,q⟩:=q
  exact q σ H ads (Grow.refl _ _) s
theorem ok_ss {kk:Nat} {G:Fns}:∀ (ss:List S) (cc:CC) (X:Cx) (st:List Stmt),GoodS kk X cc G->chkSs cc ss st=true->PSs X st (tSt X.K (evSs G ss))
 | [],cc,X,[],g,h=>pssI pss_nil fun D σ H q=>by
  obtain ⟨ads,M,ρ,s,q⟩:=q
  exact q σ H ads (Grow.refl _ _) s
 | [],cc,X,_::_,g,h=>by cases h
 | _::_,cc,X,[],g,h=>by cases h
 | s::ss,cc,X,t::ts,g,h=>by
  have h':(chkS cc s t && chkSs cc ss ts)=true:=h
  simp only [zqab] at h'
  exact pssI (pss_cons (ok_s s cc X t g h'.1) (ok_ss ss cc X ts g h'.2)) fun D σ H q=>s_seq q
end
end
noncomputable def startE (n:Nat) (ds:List D):En:=ds.map some++List.replicate (n - ds.length) none
def runDef (G:Fns) (n:Nat) (body:List S) (ds:List D) (M:Mem):Out W:=match evSs G body (startE n ds) M with
 | .rt w M=>.ok w M
 | .nx _ M=>.ok (.d .non) M
 | .er x M=>.err x M
 | _=>.stuck
theorem start_en {K:PySem.W.Frag} {ads:List Addr} {H:Hp}:∀ {ds:List D} {vs:List V} (r:RDs K ads H ds vs) (k:Nat),REn K ads H (ds.map some++List.replicate k none) (vs.map some++List.replicate k none)
 | ds,vs,r,k=>by
  intro i d e
  by_cases hi:i < ds.length
  ·rw [zqal (by simpa using hi),zqbg] at e
   cases q:ds[i]? with
   | none=>rw [q] at e;cases e
   | some d' =>
    rw [q] at e
    cases e
    obtain ⟨v,ev,rv⟩:=r.get q
    exact ⟨v,by rw [zqal (by rw [zqaz,<- r.len];exact hi),zqbg,ev];rfl,rv⟩
  ·rw [zqaw (by simpa using hi),zqcl] at e
   split at e <;> cases e
theorem def_ok {P:Program} {w:World} {K:PySem.W.Frag} {mg:Str->Option Value} {base:Heap} {x qual:Str} {st:Stmt} {f:Addr} {fd:FuncData} {N ps:List Str} {k:Nat} {G:Fns} {fs:List (Str×Nat)} {gs:List (Str×Int)} {xs:XI} {body:List S} {n:Nat} (F:Fun K x qual st f fd) (Sc:FnScope N ps (defScope st)) (hn:ps.length=n) (hb:chkSs ⟨N,(defScope st).names,fs,gs,xs⟩ body (defBody st)=true) (hblt:∀ b∈bltNames,mg b=none) (hgs:∀ (x:Str) (v:Int),gs.lookup x=some v->∃ t,mg x=some (.int v t)) (hfs:∀ (i:Nat) (x:Str) (n:Nat),fs[i]?=some (x,n)->∃ f fd ps,FnOk P w K mg base (CXe P w) k f fd ps (spD K n (G i))/\mg x=some (.ref f)/\PySem.W.keepIn K (.ref f)=true/\Binds K fd ps []) (hxs:∀ (x:Str) (a:Addr) (f:List Str),xs.cl.lookup x=some (a,f)->∃ D fI fd sf oI j,j+1<=k/\XIn K a D fI f/\K.lookup fI=some oI/\oI.cls=.type "function" /\ FnOk P w K mg base CX0 j fI fd (sf::f) (spI K a D fI f)/\Binds K fd (sf::f) []/\mg x=some (.ref a)) (hkt:∀ k C r,(k,C,r)∈xs.kt->KitIs K mg k C r) (hct:∀ cb C fs,(cb,C,fs)∈xs.ct->CatIs K mg cb C fs) (hhs:∀ (i:Nat) (x:Str) (n:Nat),fs[i]?=some (x,n)->i∈xs.hs->∃ f fd ps,FnOkH P w K mg base CX0 k f fd ps (spD K n (G i))/\mg x=some (.ref f)/\PySem.W.keepIn K (.ref f)=true/\Binds K fd ps []):FnOk P w K mg base (CXe P w) (k+1) f fd ps (spD K n (runDef G N.length body)):=by
 have hpl:ps.length<=N.length:=by have:=zqb6 List.length Sc.pre;rw [zqct] at this;omega
 obtain ⟨oc,od,kV,doc,pm,an,cdv,ct,osl,rfl,lk,hcd⟩:=F.ex
 refine fn_of lk hcd Sc (fun vs H Q E h=>?_) fun A outer s H vs Q E hr hsp=>?_
 ·obtain ⟨ads,M,ds,m,r,hl,_⟩:=h
  rw [<- r.len,hl,hn]
 ·letI:EX:=exOf E
  have gs:GoodS k (cxOf (CXe P w) P w K mg base N qual (defScope st) f cdv A outer s H E) ⟨N,(defScope st).names,fs,gs,xs⟩ G:=by
   refine ⟨⟨⟨⟨hr.dp,hr.un⟩,rfl,Sc.nd,fun x k e=>?_,fun _ _=>rfl,hblt,hgs,hkt,hct,hhs⟩,rfl,hr,hfs,⟨E,cx_pass.pass,fun h=>h⟩⟩,?_,cx_pass.own,⟨E,cx_pass,fun h=>h⟩,hxs,⟨rfl,rfl⟩⟩
   ·have e:(defScope st).names.lookup x=some k:=e
    cases k with
    | «local»=>exact e
    | cell=>exact e
    | free=>exact absurd rfl (Sc.nofree _ (zqam e))
    | globalExplicit=>exact True.intro
    | globalImplicit=>exact e
   ·show (if (defScope st).kind.isAnnotationScope then ScopeKind.function else (defScope st).kind)=_
    rw [Sc.kind]
    rfl
  refine ⟨_,ok_ss body _ _ (defBody st) gs hb,?_⟩
  obtain ⟨ads,M,ds,m,r,hl,q⟩:=hsp
  have hlen:(startE N.length ds).length=N.length:=by
   unfold startE
   rw [zqau,zqaz,zqbn]
   omega
  refine ⟨ads,M,startE N.length ds,⟨m,?_,?_⟩,?_⟩
  ·unfold startE L2.start
   rw [<- r.len]
   exact start_en r _
  ·rw [hlen]
   unfold L2.start
   rw [zqau,zqaz,zqbn,<- r.len]
   omega
  ·unfold runDef at q
   cases hq:evSs G body (startE N.length ds) M with
   | nx ρ M1=>rw [hq] at q;exact fun σ' H' ads' g s'=>q .non H' ads' g s'.mem (show RD K ads' H' .non .non from rd_non)
   | rt w M1=>rw [hq] at q;exact q
   | bk _ _=>rw [hq] at q;exact q.elim
   | ct _ _=>rw [hq] at q;exact q.elim
   | er x M1=>rw [hq] at q;exact q
   | stuck=>rw [hq] at q;exact q.elim
def runDefH (G:Fns) (n:Nat) (body:List S) (ds:List D) (M:Mem):Out W:=match evSs G body (startE n ds) M with
 | .rt w M=>.ok w M
 | .nx _ M=>.ok (.d .non) M
 | _=>.stuck
theorem def_okH {P:Program} {w:World} {K:PySem.W.Frag} {mg:Str->Option Value} {base:Heap} {x qual:Str} {st:Stmt} {f:Addr} {fd:FuncData} {N ps:List Str} {k:Nat} {G:Fns} {fs:List (Str×Nat)} {gs:List (Str×Int)} {xs:XI} {body:List S} {n:Nat} (F:Fun K x qual st f fd) (Sc:FnScope N ps (defScope st)) (hn:ps.length=n) (hot:hotSs body=true) (hb:chkSs ⟨N,(defScope st).names,fs,gs,xs⟩ body (defBody st)=true) (hblt:∀ b∈bltNames,mg b=none) (hgs:∀ (x:Str) (v:Int),gs.lookup x=some v->∃ t,mg x=some (.int v t)) (hkt:∀ k C r,(k,C,r)∈xs.kt->KitIs K mg k C r) (hct:∀ cb C fs,(cb,C,fs)∈xs.ct->CatIs K mg cb C fs) (hhs:∀ (i:Nat) (x:Str) (n:Nat),fs[i]?=some (x,n)->i∈xs.hs->∃ f fd ps,FnOkH P w K mg base CX0 k f fd ps (spD K n (G i))/\mg x=some (.ref f)/\PySem.W.keepIn K (.ref f)=true/\Binds K fd ps []):FnOkH P w K mg base CX0 (k+1) f fd ps (spD K n (runDefH G N.length body)):=by
 have hpl:ps.length<=N.length:=by have:=zqb6 List.length Sc.pre;rw [zqct] at this;omega
 obtain ⟨oc,od,kV,doc,pm,an,cdv,ct,osl,rfl,lk,hcd⟩:=F.ex
 refine fn_ofH lk hcd Sc (fun vs H Q E h=>?_) fun A outer s H vs Q E hr hsp=>?_
 ·obtain ⟨ads,M,ds,m,r,hl,_⟩:=h
  rw [<- r.len,hl,hn]
 ·have gs:GoodH k (cxOfH CX0 P w K mg base N qual (defScope st) f cdv A outer s H E) ⟨N,(defScope st).names,fs,gs,xs⟩ G:=by
   refine ⟨hr,rfl,Sc.nd,fun x k e=>?_,fun _ _=>rfl,hblt,hgs,hkt,hct,hhs⟩
   have e:(defScope st).names.lookup x=some k:=e
   cases k with
   | «local»=>exact e
   | cell=>exact e
   | free=>exact absurd rfl (Sc.nofree _ (zqam e))
   | globalExplicit=>exact True.intro
   | globalImplicit=>exact e
  refine ⟨_,h_ss body _ _ (defBody st) gs hot hb,?_⟩
  obtain ⟨ads,M,ds,m,r,hl,q⟩:=hsp
  have hlen:(startE N.length ds).length=N.length:=by
   unfold startE
   rw [zqau,zqaz,zqbn]
   omega
  refine ⟨ads,M,startE N.length ds,⟨m,?_,?_⟩,?_⟩
  ·unfold startE L2.start
   rw [<- r.len]
   exact start_en r _
  ·rw [hlen]
   unfold L2.start
   rw [zqau,zqaz,zqbn,<- r.len]
   omega
  ·unfold runDefH at q
   cases hq:evSs G body (startE N.length ds) M with
   | nx ρ M1=>rw [hq] at q;exact fun σ' H' ads' g s'=>q .non H' ads' g s'.mem (show RD K ads' H' .non .non from rd_non)
   | rt w M1=>rw [hq] at q;exact q
   | bk _ _=>rw [hq] at q;exact q.elim
   | ct _ _=>rw [hq] at q;exact q.elim
   | er x M1=>rw [hq] at q;exact q.elim
   | stuck=>rw [hq] at q;exact q.elim
noncomputable def tab (l:List (List D->Mem->Out W)):Fns:=fun i ds M=>match l[i]? with
 | some f=>f ds M
 | none=>.stuck
theorem gob_of {K:PySem.W.Frag} {h:Heap} {mg:Str->Option Value} {gs:List (Str×Int)} (X:K.In h) (G:h.Ns mainGlobals mg) (z:gs.all (fun p=>match PySem.W.nsIn K mainGlobals p.1 with | some (some (.int v _))=>v == p.2 | _=>false)=true):∀ (x:Str) (v:Int),gs.lookup x=some v->∃ t,mg x=some (.int v t):=by
 intro x v e
 have q:=zqa5.mp z (x,v) (zqam e)
 dsimp only at q
 split at q
 ·rename_i w t e2
  obtain rfl:=eq_of_beq q
  exact ⟨t,zqa3 X G e2⟩
 ·exact absurd q zqaa
section
variable {P:Program} {w:World} {K:PySem.W.Frag} {mg:Str->Option Value} {base h:Heap} {k k2:Nat} {x:Str} {n:Nat} {fs:List (Str×Nat)} {Fs:List (List D->Mem->Out W)} {F:List D->Mem->Out W} {gs:List (Str×Int)}
structure Is (P:Program) (w:World) (K:PySem.W.Frag) (mg:Str->Option Value) (base:Heap) (k:Nat) (x:Str) (n:Nat) (F:List D->Mem->Out W):Prop where
 is:∃ f fd ps,FnOk P w K mg base (CXe P w) k f fd ps (spD K n F)/\mg x=some (.ref f)/\PySem.W.keepIn K (.ref f)=true/\Binds K fd ps []
theorem Is.mono (h:Is P w K mg base k x n F) (hk:k<=k2):Is P w K mg base k2 x n F:=by
 obtain ⟨f,fd,ps,a,b⟩:=h.is
 exact ⟨f,fd,ps,a.mono hk,b⟩
noncomputable def All (P:Program) (w:World) (K:PySem.W.Frag) (mg:Str->Option Value) (base:Heap) (k:Nat) (fs:List (Str×Nat)) (Fs:List (List D->Mem->Out W)):Prop:=fs.length=Fs.length/\∀ (i:Nat) (x:Str) (n:Nat),fs[i]?=some (x,n)->∃ F,Fs[i]?=some F/\Is P w K mg base k x n F
theorem All.nil:All P w K mg base k [] []:=⟨rfl,fun i x n e=>by simp at e⟩
theorem All.snoc (h:All P w K mg base k fs Fs) (g:Is P w K mg base (k+1) x n F):All P w K mg base (k+1) (fs++[(x,n)]) (Fs++[F]):=by
 obtain ⟨hl,h⟩:=h
 refine ⟨by rw [zqau,zqau,hl];rfl,fun i y m e=>?_⟩
 by_cases hi:i < fs.length
 ·rw [zqal hi] at e
  obtain ⟨F,a,b⟩:=h i y m e
  exact ⟨F,by rw [zqal (∅)];exact a,b.mono (Nat.le_succ _)⟩
 ·have:i=fs.length:=by
   have:=(zqak.mp e).1
   simp at this;omega
  subst this
  simp at e
  obtain ⟨rfl,rfl⟩:=e
  exact ⟨F,by rw [hl];simp,g⟩
theorem All.fns (h:All P w K mg base k fs Fs):∀ (i:Nat) (x:Str) (n:Nat),fs[i]?=some (x,n)->∃ f fd ps,FnOk P w K mg base (CXe P w) k f fd ps (spD K n (tab Fs i))/\mg x=some (.ref f)/\PySem.W.keepIn K (.ref f)=true/\Binds K fd ps []:=fun i y m e=>by
 obtain ⟨F,a,b⟩:=h.2 i y m e
 have:tab Fs i=F:=by funext ds M;unfold tab;rw [a]
 rw [this]
 exact b.is
noncomputable def scB (N ps:List Str) (sc:Scope):Bool:=(match sc.kind with | .function=>true | _=>false) && !sc.isCoroutine && !sc.isGenerator && decide N.Nodup && decide (N.take ps.length=ps) && ps.all (fun x=>match sc.names.lookup x with | some .local=>true | some .cell=>true | _=>false) && sc.names.all fun y=>match y.2 with | .free=>false | _=>true
theorem scB_ok {N ps:List Str} {sc:Scope} (h:scB N ps sc=true):FnScope N ps sc:=by
 unfold scB at h
 simp only [zqab,zqa5,zqbu,zqa0] at h
 obtain ⟨⟨⟨⟨⟨⟨h1,h2⟩,h3⟩,h4⟩,h5⟩,h6⟩,h7⟩:=h
 refine ⟨?_,h2,h3,h4,h5,fun x hx=>?_,fun y hy e=>?_⟩
 ·split at h1
  ·assumption
  ·cases h1
 ·have:=h6 x hx
  split at this
  ·exact .inl (by assumption)
  ·exact .inr (by assumption)
  ·cases this
 ·have:=h7 y hy
  rw [e] at this
  cases this
noncomputable def bdP:Nat->(List Value->Prop)->Prop
 | 0,P=>P []
 | k+1,P=>∀ a,bdP k fun us=>P (a::us)
theorem bd_of:∀ {k:Nat} {P:List Value->Prop},bdP k P->∀ us,us.length=k->P us:=by
 intro k
 induction k with
 | zero=>intro P h us e;rw [List.length_eq_zero_iff.mp e];exact h
 | succ k ih =>
  intro P h us e
  cases us with
  | nil=>cases e
  | cons a us=>exact ih (P:=fun us=>P (a::us)) (h a) us (Nat.succ.inj e)
structure Cw (K:PySem.W.Frag) (h:Heap) (mg:Str->Option Value) (gs:List (Str×Int)):Prop where
 X:K.In h
 G:h.Ns mainGlobals mg
 b:∀ b∈bltNames,mg b=none
 g:∀ (x:Str) (v:Int),gs.lookup x=some v->∃ t,mg x=some (.int v t)
structure XsW (P:Program) (w:World) (K:PySem.W.Frag) (mg:Str->Option Value) (base:Heap) (xs:XI):Prop where
 cl:∀ (x:Str) (a:Addr) (f:List Str),xs.cl.lookup x=some (a,f)->∃ D fI fd sf oI,XIn K a D fI f/\K.lookup fI=some oI/\oI.cls=.type "function" /\ FnOk P w K mg base CX0 1 fI fd (sf::f) (spI K a D fI f)/\Binds K fd (sf::f) []/\mg x=some (.ref a)
 kt:∀ k C r,(k,C,r)∈xs.kt->KitIs K mg k C r
 ct:∀ cb C fs,(cb,C,fs)∈xs.ct->CatIs K mg cb C fs
def HIs (P:Program) (w:World) (K:PySem.W.Frag) (mg:Str->Option Value) (base:Heap) (k:Nat) (x:Str) (n:Nat) (F:List D->Mem->Out W):Prop:=∃ f fd ps,FnOkH P w K mg base CX0 k f fd ps (spD K n F)/\mg x=some (.ref f)/\PySem.W.keepIn K (.ref f)=true/\Binds K fd ps []
theorem HIs.mono (h:HIs P w K mg base k x n F) (hk:k<=k2):HIs P w K mg base k2 x n F:=by
 obtain ⟨f,fd,ps,a,b⟩:=h
 exact ⟨f,fd,ps,⟨a.len,fun A outer s H args us vs Q E hr=>a.run A outer s H args us vs Q E ⟨by have:=hr.dp;omega,by have:=hr.un;omega⟩⟩,b⟩
theorem HIs.is (h:HIs P w K mg base k x n F):Is P w K mg base k x n F:=by
 obtain ⟨f,fd,ps,a,b⟩:=h
 refine ⟨f,fd,ps,⟨a.len,fun A outer s H args us vs Q E hr e0 hb hv hs=>zqca (a.run A outer s H args us vs Q E ⟨hr.dp,hr.un⟩ e0 hb hv hs) fun r s' hq=>?_⟩,b⟩
 cases r with
 | error e=>exact hq.elim
 | ok fl=>cases fl <;> exact hq
theorem law_of (x:Str) (a:Addr) (st:Stmt) (N ps:List Str) (b:List S) (m c:Value) (W:Cw K h mg gs) (A:All P w K mg base k fs Fs) (lk:K.lookup a=some (fo (fq x st m c))) (hc:PySem.W.codeIn K c x=true) (hk:PySem.W.keepIn K (.ref a)=true) (hb:(scB N ps (defScope st) && chkSs ⟨N,(defScope st).names,fs,gs,xNil⟩ b (defBody st))=true):FnOk P w K mg base (CXe P w) (k+1) a (fq x st m c) ps (spD K ps.length (runDef (tab Fs) N.length b)) :=
 def_ok (fun_mk lk hc hk) (scB_ok ((zqab _ _).mp hb).1) rfl ((zqab _ _).mp hb).2 W.b W.g A.fns (fun _ _ _ e=>nomatch e) (fun _ _ _ e=>nomatch e) (fun _ _ _ e=>nomatch e) (fun _ _ _ _ e=>nomatch e)
theorem nx (x:Str) (a:Addr) (st:Stmt) (N ps:List Str) (b:List S) (m c:Value) (W:Cw K h mg gs) (A:All P w K mg base k fs Fs) (ha:PySem.W.nsIn K mainGlobals x=some (some (.ref a)):=by (kernel_rfl)) (lk:K.lookup a=some (fo (fq x st m c)):=by (kernel_rfl)) (hc:PySem.W.codeIn K c x=true:=by (kernel_rfl)) (hk:PySem.W.keepIn K (.ref a)=true:=by (kernel_rfl)) (hb:(scB N ps (defScope st) && chkSs ⟨N,(defScope st).names,fs,gs,xNil⟩ b (defBody st))=true:=by (decide +kernel)) (bd:bdP ps.length fun us=>bindArgs (fq x st m c) ⟨us,[]⟩=pure (ps.zip us):=by (repeat intro _);rfl):All P w K mg base (k+1) (fs++[(x,ps.length)]) (Fs++[runDef (tab Fs) N.length b]) :=
 A.snoc ⟨a,_,ps,law_of x a st N ps b m c W A lk hc hk hb,zqa3 W.X W.G ha,hk,.all (bd_of bd)⟩
theorem nxr {xs:XI} (x:Str) (a:Addr) (st:Stmt) (N ps:List Str) (b:List S) (m c:Value) (W:Cw K h mg gs) (A:All P w K mg base k fs Fs) (X:XsW P w K mg base xs) (h2:2<=k) (hh:∀ (i:Nat) (x:Str) (n:Nat),fs[i]?=some (x,n)->i∈xs.hs->HIs P w K mg base k x n (tab Fs i)) (ha:PySem.W.nsIn K mainGlobals x=some (some (.ref a)):=by (kernel_rfl)) (lk:K.lookup a=some (fo (fq x st m c)):=by (kernel_rfl)) (hc:PySem.W.codeIn K c x=true:=by (kernel_rfl)) (hk:PySem.W.keepIn K (.ref a)=true:=by (kernel_rfl)) (hb:(scB N ps (defScope st) && chkSs ⟨N,(defScope st).names,fs,gs,xs⟩ b (defBody st))=true:=by (decide +kernel)) (bd:bdP ps.length fun us=>bindArgs (fq x st m c) ⟨us,[]⟩=pure (ps.zip us):=by (repeat intro _);rfl):All P w K mg base (k+1) (fs++[(x,ps.length)]) (Fs++[runDef (tab Fs) N.length b]) :=
 A.snoc ⟨a,_,ps,def_ok (fun_mk lk hc hk) (scB_ok ((zqab _ _).mp hb).1) rfl ((zqab _ _).mp hb).2 W.b W.g A.fns (fun x a f e=>by
  obtain ⟨D,fI,fd,sf,oI,h1,h3,h4,h5,h6,h7⟩:=X.cl x a f e
  exact ⟨D,fI,fd,sf,oI,1,h2,h1,h3,h4,h5,h6,h7⟩) X.kt X.ct hh,zqa3 W.X W.G ha,hk,.all (bd_of bd)⟩
theorem nxh {xs:XI} (x:Str) (a:Addr) (st:Stmt) (N ps:List Str) (b:List S) (m c:Value) (W:Cw K h mg gs) (A:All P w K mg base k fs Fs) (X:XsW P w K mg base xs) (hh:∀ (i:Nat) (x:Str) (n:Nat),fs[i]?=some (x,n)->i∈xs.hs->HIs P w K mg base k x n (tab Fs i)) (ha:PySem.W.nsIn K mainGlobals x=some (some (.ref a)):=by (kernel_rfl)) (lk:K.lookup a=some (fo (fq x st m c)):=by (kernel_rfl)) (hc:PySem.W.codeIn K c x=true:=by (kernel_rfl)) (hk:PySem.W.keepIn K (.ref a)=true:=by (kernel_rfl)) (hb:(scB N ps (defScope st) && hotSs b && chkSs ⟨N,(defScope st).names,fs,gs,xs⟩ b (defBody st))=true:=by (decide +kernel)) (bd:bdP ps.length fun us=>bindArgs (fq x st m c) ⟨us,[]⟩=pure (ps.zip us):=by (repeat intro _);rfl):HIs P w K mg base (k+1) x ps.length (runDefH (tab Fs) N.length b):=by
 simp only [zqab] at hb
 exact ⟨a,_,ps,def_okH (fun_mk lk hc hk) (scB_ok hb.1.1) rfl hb.1.2 hb.2 W.b W.g X.kt X.ct hh,zqa3 W.X W.G ha,hk,.all (bd_of bd)⟩
end
class Er where
 er:Exn->Mem->Prop
@[reducible] def noEr:Er:=⟨fun _ _=>False⟩
instance (priority:=low) erNo:Er:=noEr
section
variable [er:Er]
@[irreducible] noncomputable def Okp {α:Type} (o:Out α) (P:α->Mem->Prop):Prop:=match o with
 | .ok a M=>P a M
 | .err x M=>Er.er x M
 | .stuck=>False
theorem okp_ok {α:Type} {a:α} {M:Mem} {P:α->Mem->Prop}:Okp (.ok a M) P=P a M:=by unfold Okp;exact propext zqcw
theorem okp_stuck {α:Type} {P:α->Mem->Prop}:Okp .stuck P=False:=by unfold Okp;exact propext zqcw
theorem okp_err {α:Type} {P:α->Mem->Prop} {x:Exn} {M:Mem}:Okp (.err x M) P=Er.er x M:=by unfold Okp;exact propext zqcw
theorem okp_bind {α β:Type} {o:Out α} {f:α->Mem->Out β} {P:β->Mem->Prop}:Okp (o.bind f) P=Okp o fun a M=>Okp (f a M) P:=by
 cases o with
 | ok a M=>rw [okp_ok];rfl
 | err _ _=>rw [okp_err];exact okp_err
 | stuck=>rw [okp_stuck];exact okp_stuck
theorem Okp.imp {α:Type} {o:Out α} {P Q:α->Mem->Prop} (h:Okp o P) (k:∀ a M,P a M->Q a M):Okp o Q:=by
 cases o with
 | ok a M=>rw [okp_ok] at h ⊢;exact k a M h
 | err _ _=>rw [okp_err] at h ⊢;exact h
 | stuck=>rw [okp_stuck] at h;exact h.elim
theorem okp_guard {α:Type} {c:Prop} [Decidable c] {o:Out α} {P:α->Mem->Prop}:Okp (if c then o else .stuck) P=(c/\Okp o P):=by
 by_cases h:c
 ·rw [zqav h];exact propext ⟨fun q=>⟨h,q⟩,fun q=>q.2⟩
 ·rw [zqax h,okp_stuck];exact propext ⟨fun q=>q.elim,fun q=>absurd q.1 h⟩
omit er in
theorem okp_eq {α:Type} {o:Out α} {P:α->Mem->Prop} (h:@Okp noEr α o P):∃ a M,o=.ok a M/\P a M:=by
 cases o with
 | ok a M=>rw [@okp_ok noEr] at h;exact ⟨a,M,rfl,h⟩
 | err _ _=>rw [@okp_err noEr] at h;exact h.elim
 | stuck=>rw [@okp_stuck noEr] at h;exact h.elim
@[irreducible] noncomputable def OkT (o:OutS) (nx:En->Mem->Prop) (rt:W->Mem->Prop) (bk ct:En->Mem->Prop):Prop:=match o with
 | .nx ρ M=>nx ρ M
 | .rt w M=>rt w M
 | .bk ρ M=>bk ρ M
 | .ct ρ M=>ct ρ M
 | .er x M=>Er.er x M
 | .stuck=>False
section
variable {nx:En->Mem->Prop} {rt:W->Mem->Prop} {bk ct:En->Mem->Prop}
theorem okt_nx {ρ:En} {M:Mem}:OkT (.nx ρ M) nx rt bk ct=nx ρ M:=by unfold OkT;exact propext zqcw
theorem okt_rt {w:W} {M:Mem}:OkT (.rt w M) nx rt bk ct=rt w M:=by unfold OkT;exact propext zqcw
theorem okt_bk {ρ:En} {M:Mem}:OkT (.bk ρ M) nx rt bk ct=bk ρ M:=by unfold OkT;exact propext zqcw
theorem okt_ct {ρ:En} {M:Mem}:OkT (.ct ρ M) nx rt bk ct=ct ρ M:=by unfold OkT;exact propext zqcw
theorem okt_er {x:Exn} {M:Mem}:OkT (.er x M) nx rt bk ct=Er.er x M:=by unfold OkT;exact propext zqcw
theorem okt_stuck:OkT .stuck nx rt bk ct=False:=by unfold OkT;exact propext zqcw
theorem okt_ofE {α:Type} {o:Out α} {f:α->Mem->OutS}:OkT (OutS.ofE o f) nx rt bk ct=Okp o fun a M=>OkT (f a M) nx rt bk ct:=by
 cases o with
 | ok a M=>rw [okp_ok];rfl
 | err _ _=>rw [okp_err];exact okt_er
 | stuck=>rw [okp_stuck];exact okt_stuck
theorem okt_seq {o:OutS} {f:En->Mem->OutS}:OkT (o.seq f) nx rt bk ct=OkT o (fun ρ M=>OkT (f ρ M) nx rt bk ct) rt bk ct:=by
 cases o with
 | nx ρ M=>rw [okt_nx];rfl
 | rt ρ M=>rw [okt_rt];exact okt_rt
 | bk ρ M=>rw [okt_bk];exact okt_bk
 | ct ρ M=>rw [okt_ct];exact okt_ct
 | er ρ M=>rw [okt_er];exact okt_er
 | stuck=>rw [okt_stuck];exact okt_stuck
end
theorem okp_run {G:Fns} {n:Nat} {b:List S} {ds:List D} {M:Mem} {P:W->Mem->Prop}:Okp (runDef G n b ds M) P=OkT (evSs G b (startE n ds) M) (fun _ M=>P (.d .non) M) P (fun _ _=>False) (fun _ _=>False):=by
 unfold runDef
 cases evSs G b (startE n ds) M with
 | nx ρ M=>rw [okt_nx];exact okp_ok
 | rt ρ M=>rw [okt_rt];exact okp_ok
 | bk ρ M=>rw [okt_bk];exact okp_stuck
 | ct ρ M=>rw [okt_ct];exact okp_stuck
 | er ρ M=>rw [okt_er];exact okp_err
 | stuck=>rw [okt_stuck];exact okp_stuck
section
variable {G:Fns} {ρ:En} {M:Mem} {P:W->Mem->Prop}
theorem k_cst {d:D}:Okp (ev G (.cst d) ρ M) P=P (.d d) M:=by simp only [ev_cst,okp_ok]
theorem k_bin {op:BOp} {a b:C}:Okp (ev G (.bin op a b) ρ M) P=Okp (ev G a ρ M) fun x M=>Okp (ev G b ρ M) fun y M=>Okp (binW op x y M) P:=by simp only [ev_bin,okp_bind]
theorem k_cmp {op:COp} {a b:C}:Okp (ev G (.cmp op a b) ρ M) P=Okp (ev G a ρ M) fun x M=>Okp (ev G b ρ M) fun y M=>Okp (cmpW op x y M) fun r M=>P (.d (.bl r)) M:=by simp only [ev_cmp,okp_bind,okp_ok]
theorem k_ite {c:Tst} {a b:C}:Okp (ev G (.ite c a b) ρ M) P=Okp (evT G c ρ M) fun r M=>if r then Okp (ev G a ρ M) P else Okp (ev G b ρ M) P:=by
 simp only [ev_ite,okp_bind]
 congr 1;funext r M
 cases r <;> rfl
theorem k_tup {cs:List C}:Okp (ev G (.tup cs) ρ M) P=Okp (evDs G cs ρ M) fun ds M=>ds.length<=sizeLine/\P (.d (.tup ds)) M:=by
 simp only [ev_tup,okp_bind,okp_guard,okp_ok]
theorem k_lst {cs:List C}:Okp (ev G (.lst cs) ρ M) P=Okp (evDs G cs ρ M) fun ds M=>ds.length<=sizeLine/\P (.lv ds) M:=by
 simp only [ev_lst,okp_bind,okp_guard,okp_ok]
theorem k_sub {a b:C}:Okp (ev G (.sub a b) ρ M) P=Okp (ev G a ρ M) fun x M=>Okp (ev G b ρ M) fun y M=>Okp (subW x y M) P:=by simp only [ev_sub,okp_bind]
theorem k_o0 {P:Option Int->Mem->Prop}:Okp (evO G none ρ M) P=P none M:=by simp only [evO_none,evO_some,okp_ok]
theorem k_call {f:Nat} {cs:List C}:Okp (ev G (.call f cs) ρ M) P=Okp (evDs G cs ρ M) fun ds M=>Okp (G f ds M) P:=by simp only [ev_call,okp_bind]
theorem k_bi {b:Bi} {cs:List C}:Okp (ev G (.bi b cs) ρ M) P=Okp (evWs G cs ρ M) fun ws M=>Okp (biW b ws M) P:=by simp only [ev_bi,okp_bind]
theorem k_me {m:Me} {o:C} {cs:List C}:Okp (ev G (.me m o cs) ρ M) P=Okp (ev G o ρ M) fun x M=>(lstW M x).isSome=true/\Okp (evDs G cs ρ M) fun ds M=>Okp (meW m x ds M) P:=by
 simp only [ev_me,okp_bind,okp_guard]
theorem k_dct {ks:List Str} {cs:List C}:Okp (ev G (.dct ks cs) ρ M) P=Okp (evDs G cs ρ M) fun ds M=>ks.length=ds.length/\P (.d (.adr M.length)) (M++[.dK ((ks.map Sum.inr).zip ds)]):=by
 simp only [ev_dct,okp_bind,okp_guard,okp_ok]
theorem k_comp {k:SK} {src:List C} {tg:List Nat} {cond:Option Tst} {elt:C} {cap:List (Option Nat)}:Okp (ev G (.comp k src tg cond elt cap) ρ M) P=Okp (evWs G src ρ M) fun ws M=>Okp (srcW k ws M) fun it M=>Okp (compGo (fun τ M=>evCond G cond τ M) (fun τ M=>(ev G elt τ M).bind own) it tg (itLen M it) 0 (capEn cap ρ) M []) P:=by simp only [ev_comp,okp_bind]
theorem k_d0 {P:List D->Mem->Prop}:Okp (evDs G [] ρ M) P=P [] M:=by simp only [evDs_nil,evDs_cons,okp_ok]
theorem k_d1 {c:C} {cs:List C} {P:List D->Mem->Prop}:Okp (evDs G (c::cs) ρ M) P=Okp (ev G c ρ M) fun w M=>Okp (own w M) fun d M=>Okp (evDs G cs ρ M) fun ds M=>P (d::ds) M:=by simp only [evDs_nil,evDs_cons,okp_bind,okp_ok]
theorem k_w0 {P:List W->Mem->Prop}:Okp (evWs G [] ρ M) P=P [] M:=by simp only [evWs_nil,evWs_cons,okp_ok]
theorem k_w1 {c:C} {cs:List C} {P:List W->Mem->Prop}:Okp (evWs G (c::cs) ρ M) P=Okp (ev G c ρ M) fun w M=>Okp (evWs G cs ρ M) fun ds M=>P (w::ds) M:=by simp only [evWs_nil,evWs_cons,okp_bind,okp_ok]
theorem k_val {c:C} {P:Bool->Mem->Prop}:Okp (evT G (.val c) ρ M) P=Okp (ev G c ρ M) fun w M=>∃ r,truW M w=some r/\P r M:=by
 simp only [evT_val,okp_bind]
 congr 1;funext w M
 cases h:truW M w with
 | none=>simp only [reduceCtorEq,false_and,exists_false,okp_stuck]
 | some r=>simp only [zqbi,exists_eq_left',okp_ok]
theorem k_neg {a:Tst} {P:Bool->Mem->Prop}:Okp (evT G (.neg a) ρ M) P=Okp (evT G a ρ M) fun r M=>P (!r) M:=by simp only [evT_neg,okp_bind,okp_ok]
theorem k_all1 {a:Tst} {P:Bool->Mem->Prop}:Okp (evAll G [a] ρ M) P=Okp (evT G a ρ M) P:=by simp only [evAll_nil,evAll_cons,okp_bind,okp_ok]
theorem k_any1 {a:Tst} {P:Bool->Mem->Prop}:Okp (evAny G [a] ρ M) P=Okp (evT G a ρ M) P:=by simp only [evAny_nil,evAny_cons,okp_bind,okp_ok]
theorem k_all2 {a b:Tst} {cs:List Tst} {P:Bool->Mem->Prop}:Okp (evAll G (a::b::cs) ρ M) P=Okp (evT G a ρ M) fun r M=>if r then Okp (evAll G (b::cs) ρ M) P else P false M:=by
 rw [evAll_cons]
 simp only [okp_bind]
 congr 1;funext r M
 cases r with
 | true=>rfl
 | false=>exact okp_ok
theorem k_any2 {a b:Tst} {cs:List Tst} {P:Bool->Mem->Prop}:Okp (evAny G (a::b::cs) ρ M) P=Okp (evT G a ρ M) fun r M=>if r then P true M else Okp (evAny G (b::cs) ρ M) P:=by
 rw [evAny_cons]
 simp only [okp_bind]
 congr 1;funext r M
 cases r with
 | true=>exact okp_ok
 | false=>rfl
theorem k_conj {ts:List Tst} {P:Bool->Mem->Prop}:Okp (evT G (.conj ts) ρ M) P=Okp (evAll G ts ρ M) P:=by simp only [evT_conj]
theorem k_disj {ts:List Tst} {P:Bool->Mem->Prop}:Okp (evT G (.disj ts) ρ M) P=Okp (evAny G ts ρ M) P:=by simp only [evT_disj]
end
section
variable {G:Fns} {ρ:En} {M:Mem} {nx:En->Mem->Prop} {rt:W->Mem->Prop} {bk ct:En->Mem->Prop}
theorem t_asgC {i:Nat} {c:C}:OkT (evS G (.asgC i c) ρ M) nx rt bk ct=Okp (ev G c ρ M) fun w M=>Okp (own w M) fun d M=>nx (ρ.set i (some d)) M:=by simp only [evS_asgC,okt_ofE,okp_bind,okt_nx]
theorem t_put {o i v:C}:OkT (evS G (.put o i v) ρ M) nx rt bk ct=Okp (ev G v ρ M) fun w M=>Okp (own w M) fun d M=>Okp (ev G o ρ M) fun x M=>Okp (ev G i ρ M) fun y M=>Okp (setW x y d M) fun _ M=>nx ρ M:=by simp only [evS_put,okt_ofE,okp_bind,okt_nx]
theorem t_expr {c:C}:OkT (evS G (.expr c) ρ M) nx rt bk ct=Okp (ev G c ρ M) fun _ M=>nx ρ M:=by simp only [evS_expr,okt_ofE,okt_nx]
theorem t_ret {c:C}:OkT (evS G (.ret c) ρ M) nx rt bk ct=Okp (ev G c ρ M) rt:=by simp only [evS_ret,okt_ofE,okt_rt]
theorem t_if {t:Tst} {a b:List S}:OkT (evS G (.iff t a b) ρ M) nx rt bk ct=Okp (evT G t ρ M) fun r M=>if r then OkT (evSs G a ρ M) nx rt bk ct else OkT (evSs G b ρ M) nx rt bk ct:=by
 simp only [evS_iff,okt_ofE]
 congr 1;funext r M
 cases r <;> rfl
theorem t_for {tg:List Nat} {k:SK} {src:List C} {b:List S}:OkT (evS G (.forr tg k src b) ρ M) nx rt bk ct=Okp (evWs G src ρ M) fun ws M=>Okp (srcW k ws M) fun it M=>OkT (forGo (fun ρ M=>evSs G b ρ M) it tg (itLen M it) 0 ρ M) nx rt bk ct:=by
 simp only [evS_forr,okt_ofE,evSrc,okp_bind]
theorem t_nil:OkT (evSs G [] ρ M) nx rt bk ct=nx ρ M:=by simp only [evSs_nil,evSs_cons,okt_nx]
theorem t_cons {s:S} {ss:List S}:OkT (evSs G (s::ss) ρ M) nx rt bk ct=OkT (evS G s ρ M) (fun ρ M=>OkT (evSs G ss ρ M) nx rt bk ct) rt bk ct:=by simp only [evSs_nil,evSs_cons,okt_seq]
end
theorem for_ok {body:En->Mem->OutS} {it:It} {tg:List Nat} {ds:List D} {nx:En->Mem->Prop} {rt:W->Mem->Prop} {bk ct:En->Mem->Prop} (I:Nat->En->Mem->Prop) (hd:∀ i ρ M,I i ρ M->i<=ds.length->itemAt M i it=some ds[i]?) (hs:∀ i ρ M d,I i ρ M->ds[i]?=some d->∃ ρ',bindT tg d ρ=some ρ'/\OkT (body ρ' M) (I (i+1)) rt nx (I (i+1))) (he:∀ ρ M,I ds.length ρ M->nx ρ M):∀ (f i:Nat) (ρ:En) (M:Mem),I i ρ M->i+f=ds.length->OkT (forGo body it tg f i ρ M) nx rt bk ct
 | 0,i,ρ,M,h,e=>by
  unfold forGo
  have:i=ds.length:=∅
  subst this
  rw [hd _ _ _ h (zqae _),List.getElem?_eq_none (zqae _)]
  dsimp only
  rw [okt_nx]
  exact he _ _ h
 | f+1,i,ρ,M,h,e=>by
  unfold forGo
  have hi:i < ds.length:=∅
  rw [hd _ _ _ h (zqbq hi),zqa6 hi]
  obtain ⟨ρ',e1,e2⟩:=hs i ρ M ds[i] h (zqa6 hi)
  dsimp only
  rw [e1]
  dsimp only
  cases q:body ρ' M with
  | nx ρ2 M2=>rw [q,okt_nx] at e2;exact for_ok I hd hs he f (i+1) ρ2 M2 e2 (∅)
  | ct ρ2 M2=>rw [q,okt_ct] at e2;exact for_ok I hd hs he f (i+1) ρ2 M2 e2 (∅)
  | bk ρ2 M2=>rw [q,okt_bk] at e2;dsimp only;rw [okt_nx];exact e2
  | rt w M2=>rw [q,okt_rt] at e2;dsimp only;rw [okt_rt];exact e2
  | er x M2=>rw [q,okt_er] at e2;dsimp only;rw [okt_er];exact e2
  | stuck=>rw [q,okt_stuck] at e2;exact e2.elim
end
section
variable [er:Er]
noncomputable def Opk {α:Type} (o:Out α) (P:α->Mem->Prop):Prop:=match o with
 | .ok a M=>P a M
 | .err x M=>Er.er x M
 | .stuck=>False
theorem okp_b1 {o:Out W} {P:W->Mem->Prop}:Okp (o.b0 .ok) P=@Okp noEr _ o P:=by
 cases o with
 | ok a M=>rw [okp_ok (er:=noEr)];exact okp_ok
 | err _ _=>rw [okp_err (er:=noEr)];exact okp_stuck
 | stuck=>rw [okp_stuck (er:=noEr)];exact okp_stuck
theorem okp_opk {α:Type} {o:Out α} {P:α->Mem->Prop}:Okp o P=Opk o P:=by
 cases o with
 | ok a M=>rw [okp_ok];rfl
 | err _ _=>rw [okp_err];rfl
 | stuck=>rw [okp_stuck];rfl
noncomputable def andK (x:W) (A B:Prop):Prop:=match x with
 | .d (.bl true)=>A
 | .d (.bl false)=>B
 | _=>False
noncomputable def bK (b:Bool) (A B:Prop):Prop:=match b with
 | true=>A
 | false=>B
theorem bK_if {b:Bool} {A B:Prop}:bK b A B=if b=true then A else B:=by cases b <;> simp [bK]
noncomputable def truK (o:Option Bool) (P:Bool->Prop):Prop:=match o with
 | some r=>P r
 | none=>False
noncomputable def varK (o:Option (Option D)) (P:D->Prop):Prop:=match o with
 | some (some d)=>P d
 | _=>False
noncomputable def enK (o:Option En) (P:En->Prop):Prop:=match o with
 | some ρ=>P ρ
 | none=>False
noncomputable def intK (w:W) (P:Int->Prop):Prop:=match w with
 | .d (.int i)=>P i
 | _=>False
def isNon:D->Bool
 | .non=>true
 | _=>false
theorem sh_int {i:Int}:SeqAt.shaped (.int i)=true:=by unfold SeqAt.shaped;rw [PyData.canLay0.eq_3,PyData.depth.eq_6];rfl
theorem c_eqI {M:Mem} {i j:Int}:cmpW .eq (.d (.int i)) (.d (.int j)) M=.ok (i == j) M:=by
 unfold cmpW
 have h1:∀ i,pyW M (.d (.int i))=some (.int i):=fun i=>by show pyD M 30 (.int i)=_;unfold pyD;rfl
 simp only [h1,sh_int,and_self,zqcf,PyData.eqv.eq_5]
theorem c_neI {M:Mem} {i j:Int}:cmpW .ne (.d (.int i)) (.d (.int j)) M=.ok (!(i == j)) M:=by
 unfold cmpW
 have h1:∀ i,pyW M (.d (.int i))=some (.int i):=fun i=>by show pyD M 30 (.int i)=_;unfold pyD;rfl
 simp only [h1,sh_int,and_self,zqcf,PyData.eqv.eq_5]
def wBin (op:BOp) (x y:W) (M:Mem) (P:W->Mem->Prop):Prop:=match op,x,y with
 | .add,.d (.int i),.d (.int j)=>P (.d (.int (i+j))) M
 | .sub,.d (.int i),.d (.int j)=>P (.d (.int (i - j))) M
 | .mul,.d (.int i),.d (.int j)=>((-(2 ^ 64) < i/\i < 2 ^ 64)\/(-(2 ^ 64) < j/\j < 2 ^ 64))/\P (.d (.int (i * j))) M
 | .fdiv,.d (.int i),.d (.int j)=>(0 < j/\j < 1073741824)/\P (.d (.int (i / j))) M
 | .mod,.d (.int i),.d (.int j)=>0 < j/\P (.d (.int (i % j))) M
 | .add,.d (.tup xs),.d (.tup ys)=>xs.length+ys.length<=sizeLine/\P (.d (.tup (xs++ys))) M
 | .add,.lv xs,.lv ys=>xs.length+ys.length<=sizeLine/\P (.lv (xs++ys)) M
 | op,x,y=>Opk (binW op x y M) P
theorem opk_if {α:Type} {c:Prop} [Decidable c] {a:α} {M:Mem} {P:α->Mem->Prop}:Opk (if c then .ok a M else .stuck) P=(c/\P a M):=by
 by_cases h:c
 ·rw [zqav h];exact propext ⟨fun q=>⟨h,q⟩,fun q=>q.2⟩
 ·rw [zqax h];exact propext ⟨fun q=>q.elim,fun q=>absurd q.1 h⟩
theorem opk_bin {op:BOp} {x y:W} {M:Mem} {P:W->Mem->Prop}:Opk (binW op x y M) P=wBin op x y M P:=by
 rcases x with ⟨_|_ | i | _ | xs | _|_⟩ | xs
 all_goals (first | (cases op <;> rfl) | skip)
 ·rcases y with ⟨_|_ | j | _|_|_|_⟩|_ <;> cases op <;> first | rfl | exact opk_if
 ·rcases y with ⟨_|_|_|_ | ys | _|_⟩|_ <;> cases op <;> first | rfl | exact opk_if
 ·rcases y with ⟨_|_|_|_|_|_|_⟩ | ys <;> cases op <;> first | rfl | exact opk_if
def wCmp (op:COp) (x y:W) (M:Mem) (P:Bool->Mem->Prop):Prop:=match op,x,y with
 | .eq,.d (.int i),.d (.int j)=>P (i == j) M
 | .ne,.d (.int i),.d (.int j)=>P (!(i == j)) M
 | .isN,.d d,_=>P (isNon d) M
 | .notN,.d d,_=>P (!isNon d) M
 | op,x,y=>Opk (cmpW op x y M) P
theorem opk_cmp {op:COp} {x y:W} {M:Mem} {P:Bool->Mem->Prop}:Opk (cmpW op x y M) P=wCmp op x y M P:=by
 cases op
 case eq=>rcases x with ⟨_|_ | i | _|_|_|_⟩|_ <;> first | rfl | (rcases y with ⟨_|_ | j | _|_|_|_⟩|_ <;> first | (rw [c_eqI];rfl) | rfl)
 case ne=>rcases x with ⟨_|_ | i | _|_|_|_⟩|_ <;> first | rfl | (rcases y with ⟨_|_ | j | _|_|_|_⟩|_ <;> first | (rw [c_neI];rfl) | rfl)
 case isN=>rcases x with ⟨_|_|_|_|_|_|_⟩|_ <;> rfl
 case notN=>rcases x with ⟨_|_|_|_|_|_|_⟩|_ <;> rfl
 all_goals (first | rfl | (rcases x with ⟨_|_|_|_|_|_|_⟩|_ <;> rfl))
def wSrc (k:SK) (ws:List W) (M:Mem) (P:It->Mem->Prop):Prop:=match k,ws with
 | .rng1,[.d (.int j)]=>(-(2 ^ 62)<=j/\j < 2 ^ 62)/\P (.rng 0 j.toNat) M
 | .rng2,[.d (.int i),.d (.int j)]=>(-(2 ^ 62)<=i/\i < 2 ^ 62/\-(2 ^ 62)<=j/\j < 2 ^ 62)/\P (.rng i (j - i).toNat) M
 | k,ws=>Opk (srcW k ws M) P
theorem opk_src {k:SK} {ws:List W} {M:Mem} {P:It->Mem->Prop}:Opk (srcW k ws M) P=wSrc k ws M P:=by
 unfold wSrc
 split <;> first | rfl | exact opk_if
def wRng (tp:Bool) (ws:List W) (M:Mem) (P:W->Mem->Prop):Prop:=match rngArg ws with
 | some (i,j)=>((-(2 ^ 62)<=i/\i < 2 ^ 62/\-(2 ^ 62)<=j/\j < 2 ^ 62)/\(j - i).toNat<=2 ^ 24)/\P (rngOut tp (rngD i (j - i).toNat)) M
 | none=>False
theorem opk_rng {tp:Bool} {ws:List W} {M:Mem} {P:W->Mem->Prop}:Opk (rngW tp ws M) P=wRng tp ws M P:=by
 unfold rngW wRng
 cases rngArg ws with
 | none=>rfl
 | some ij=>exact opk_if
mutual
noncomputable def wE (G:Fns):C->En->Mem->(W->Mem->Prop)->Prop
  | .var i,ρ,M,P=>varK ρ[i]? fun d=>P (.d d) M
  | .cst d,_,M,P=>P (.d d) M
  | .bin op a b,ρ,M,P=>wE G a ρ M fun x M=>wE G b ρ M fun y M=>wBin op x y M P
  | .cmp op a b,ρ,M,P=>wE G a ρ M fun x M=>wE G b ρ M fun y M=>wCmp op x y M fun r M=>P (.d (.bl r)) M
  | .chain o1 o2 a b c, ρ, M, P => wE G a ρ M fun x M => wE G b ρ M fun y M => wCmp o1 x y M fun r M =>
      bK r (wE G c ρ M fun z M=>wCmp o2 y z M fun r M=>P (.d (.bl r)) M) (P (.d (.bl false)) M)
  | .conj cs,ρ,M,P=>wAnd G cs ρ M P
  | .disj cs,ρ,M,P=>wOr G cs ρ M P
  | .neg a,ρ,M,P=>wE G a ρ M fun x M=>andK x (P (.d (.bl false)) M) (P (.d (.bl true)) M)
  | .ite c a b,ρ,M,P=>wT G c ρ M fun r M=>bK r (wE G a ρ M P) (wE G b ρ M P)
  | .tup cs,ρ,M,P=>wDs G cs ρ M fun ds M=>ds.length<=sizeLine/\P (.d (.tup ds)) M
  | .lst cs,ρ,M,P=>wDs G cs ρ M fun ds M=>ds.length<=sizeLine/\P (.lv ds) M
  | .sub a b,ρ,M,P=>wE G a ρ M fun x M=>wE G b ρ M fun y M=>Opk (subW x y M) P
  | .call f cs,ρ,M,P=>wDs G cs ρ M fun ds M=>Okp (G f ds M) P
  | .bi b cs,ρ,M,P=>wWs G cs ρ M fun ws M=>Opk (biW b ws M) P
  | .me m o cs,ρ,M,P=>wE G o ρ M fun x M=>(lstW M x).isSome=true/\wDs G cs ρ M fun ds M=>Opk (meW m x ds M) P
  | .dct ks cs,ρ,M,P=>wDs G cs ρ M fun ds M=>ks.length=ds.length/\P (.d (.adr M.length)) (M++[.dK ((ks.map Sum.inr).zip ds)])
  | .rng tp cs,ρ,M,P=>wWs G cs ρ M fun ws M=>wRng tp ws M P
  | .glo _ v,_,M,P=>P (.d (.int v)) M
  | .isTr ng a,ρ,M,P=>wE G a ρ M fun x M=>Opk (isTrW ng x M) P
  | .xf a f,ρ,M,P=>wE G a ρ M fun x M=>Opk (xfW f x M) P
  | .isx a _ tb,ρ,M,P=>wE G a ρ M fun x M=>Opk (isxW tb x M) P
  | .hcall f cs,ρ,M,P=>wDs G cs ρ M fun ds M=>@Okp noEr _ (G f ds M) P
  | .comp k src tg cond elt cap,ρ,M,P=>wWs G src ρ M fun ws M=>wSrc k ws M fun it M=>Okp (compGo (fun τ M=>evCond G cond τ M) (fun τ M=>(ev G elt τ M).bind own) it tg (itLen M it) 0 (capEn cap ρ) M []) P
noncomputable def wT (G:Fns):Tst->En->Mem->(Bool->Mem->Prop)->Prop
 | .conj ts,ρ,M,P=>wAll G ts ρ M P
 | .disj ts,ρ,M,P=>wAny G ts ρ M P
 | .neg a,ρ,M,P=>wT G a ρ M fun r M=>P (!r) M
 | .val c,ρ,M,P=>wE G c ρ M fun w M=>truK (truW M w) fun r=>P r M
noncomputable def wAnd (G:Fns):List C->En->Mem->(W->Mem->Prop)->Prop
 | [],_,_,_=>False
 | c::cs,ρ,M,P=>match cs with
  | []=>wE G c ρ M P
  | _::_=>wE G c ρ M fun x M=>andK x (wAnd G cs ρ M P) (P (.d (.bl false)) M)
noncomputable def wOr (G:Fns):List C->En->Mem->(W->Mem->Prop)->Prop
 | [],_,_,_=>False
 | c::cs,ρ,M,P=>match cs with
  | []=>wE G c ρ M P
  | _::_=>wE G c ρ M fun x M=>andK x (P (.d (.bl true)) M) (wOr G cs ρ M P)
noncomputable def wAll (G:Fns):List Tst->En->Mem->(Bool->Mem->Prop)->Prop
 | [],_,_,_=>False
 | c::cs,ρ,M,P=>match cs with
  | []=>wT G c ρ M P
  | _::_=>wT G c ρ M fun r M=>bK r (wAll G cs ρ M P) (P false M)
noncomputable def wAny (G:Fns):List Tst->En->Mem->(Bool->Mem->Prop)->Prop
 | [],_,_,_=>False
 | c::cs,ρ,M,P=>match cs with
  | []=>wT G c ρ M P
  | _::_=>wT G c ρ M fun r M=>bK r (P true M) (wAny G cs ρ M P)
noncomputable def wDs (G:Fns):List C->En->Mem->(List D->Mem->Prop)->Prop
 | [],_,M,P=>P [] M
 | c::cs,ρ,M,P=>wE G c ρ M fun w M=>Opk (own w M) fun d M=>wDs G cs ρ M fun ds M=>P (d::ds) M
noncomputable def wWs (G:Fns):List C->En->Mem->(List W->Mem->Prop)->Prop
 | [],_,M,P=>P [] M
 | c::cs,ρ,M,P=>wE G c ρ M fun w M=>wWs G cs ρ M fun ws M=>P (w::ws) M
noncomputable def wO (G:Fns):Option C->En->Mem->(Option Int->Mem->Prop)->Prop
 | none,_,M,P=>P none M
 | some c,ρ,M,P=>wE G c ρ M fun w M=>intK w fun i=>P (some i) M
end
section
variable {G:Fns} {lo hi:Option C} {cond:Option Tst}
theorem wE_var:wE G (.var i) ρ M P=varK ρ[i]? fun d=>P (.d d) M:=rfl
theorem wE_bin:wE G (.bin op a b) ρ M P=wE G a ρ M fun x M=>wE G b ρ M fun y M=>wBin op x y M P:=rfl
theorem wE_cmp:wE G (.cmp op a b) ρ M P=wE G a ρ M fun x M=>wE G b ρ M fun y M=>wCmp op x y M fun r M=>P (.d (.bl r)) M:=rfl
theorem wE_chain : wE G (.chain o1 o2 a b c) ρ M P = (wE G a ρ M fun x M => wE G b ρ M fun y M => wCmp o1 x y M fun r M =>
      bK r (wE G c ρ M fun z M=>wCmp o2 y z M fun r M=>P (.d (.bl r)) M) (P (.d (.bl false)) M)):=rfl
theorem wE_neg:wE G (.neg a) ρ M P=wE G a ρ M fun x M=>andK x (P (.d (.bl false)) M) (P (.d (.bl true)) M):=rfl
theorem wE_ite:wE G (.ite c a b) ρ M P=wT G c ρ M fun r M=>bK r (wE G a ρ M P) (wE G b ρ M P):=rfl
theorem wE_sub:wE G (.sub a b) ρ M P=wE G a ρ M fun x M=>wE G b ρ M fun y M=>Opk (subW x y M) P:=rfl
theorem wE_bi:wE G (.bi b cs) ρ M P=wWs G cs ρ M fun ws M=>Opk (biW b ws M) P:=rfl
theorem wE_me:wE G (.me m o cs) ρ M P=wE G o ρ M fun x M=>(lstW M x).isSome=true/\wDs G cs ρ M fun ds M=>Opk (meW m x ds M) P:=rfl
theorem wE_rng:wE G (.rng tp cs) ρ M P=wWs G cs ρ M fun ws M=>wRng tp ws M P:=rfl
theorem wE_isTr:wE G (.isTr ng a) ρ M P=wE G a ρ M fun x M=>Opk (isTrW ng x M) P:=rfl
theorem wE_xf {f:Str}:wE G (.xf a f) ρ M P=wE G a ρ M fun x M=>Opk (xfW f x M) P:=rfl
theorem wE_isx {k:IX} {tb:List (Addr×Bool)}:wE G (.isx a k tb) ρ M P=wE G a ρ M fun x M=>Opk (isxW tb x M) P:=rfl
theorem wE_comp:wE G (.comp k src tg cond elt cap) ρ M P=wWs G src ρ M fun ws M=>wSrc k ws M fun it M=>Okp (compGo (fun τ M=>evCond G cond τ M) (fun τ M=>(ev G elt τ M).bind own) it tg (itLen M it) 0 (capEn cap ρ) M []) P:=rfl
theorem wT_val:wT G (.val c) ρ M P=wE G c ρ M fun w M=>truK (truW M w) fun r=>P r M:=rfl
theorem wAnd_nil:wAnd G [] u0 u1 u2=False:=rfl
theorem wAnd_cons : wAnd G (c :: cs) ρ M P = (match cs with
    | []=>wE G c ρ M P
    | _::_=>wE G c ρ M fun x M=>andK x (wAnd G cs ρ M P) (P (.d (.bl false)) M)):=rfl
theorem wOr_nil:wOr G [] u0 u1 u2=False:=rfl
theorem wOr_cons : wOr G (c :: cs) ρ M P = (match cs with
    | []=>wE G c ρ M P
    | _::_=>wE G c ρ M fun x M=>andK x (P (.d (.bl true)) M) (wOr G cs ρ M P)):=rfl
theorem wDs_nil:wDs G [] u0 M P=P [] M:=rfl
theorem wDs_cons:wDs G (c::cs) ρ M P=wE G c ρ M fun w M=>Opk (own w M) fun d M=>wDs G cs ρ M fun ds M=>P (d::ds) M:=rfl
theorem wWs_nil:wWs G [] u0 M P=P [] M:=rfl
theorem wWs_cons:wWs G (c::cs) ρ M P=wE G c ρ M fun w M=>wWs G cs ρ M fun ws M=>P (w::ws) M:=rfl
theorem wO_none:wO G none u0 M P=P none M:=rfl
theorem wO_some:wO G (some c) ρ M P=wE G c ρ M fun w M=>intK w fun i=>P (some i) M:=rfl
end
mutual
theorem w_e {G:Fns}:∀ (c:C) (ρ:En) (M:Mem) (P:W->Mem->Prop),Okp (ev G c ρ M) P=wE G c ρ M P
 | .var i,ρ,M,P=>by
  simp only [ev_var,wE_var]
  rcases ρ[i]? with _|_ | d
  ·exact okp_stuck
  ·exact okp_stuck
  ·exact okp_ok
 | .cst d,ρ,M,P=>by rw [k_cst];rfl
 | .bin op a b,ρ,M,P=>by rw [k_bin,w_e a];simp only [w_e b,okp_opk,wE_bin,opk_bin]
 | .cmp op a b,ρ,M,P=>by rw [k_cmp,w_e a];simp only [w_e b,okp_opk,wE_cmp,opk_cmp]
 | .chain o1 o2 a b c,ρ,M,P=>by
  simp only [ev_chain,okp_bind,wE_chain]
  rw [w_e a]
  congr 1;funext x M
  rw [w_e b]
  congr 1;funext y M
  rw [okp_opk,opk_cmp]
  congr 1;funext r M
  cases r with
  | true=>simp only [okp_bind,okp_ok,zqcf,w_e c];simp only [okp_opk,opk_cmp];rfl
  | false=>simp [okp_ok,bK]
 | .conj cs,ρ,M,P=>by rw [ev_conj,w_and cs];rfl
 | .disj cs,ρ,M,P=>by rw [ev_disj,w_or cs];rfl
 | .neg a,ρ,M,P=>by
  simp only [ev_neg,okp_bind,wE_neg]
  rw [w_e a]
  congr 1;funext x M
  rcases x with ⟨_ | b | _|_|_|_|_⟩|_
  ·exact okp_stuck
  ·cases b <;> exact okp_ok
  all_goals exact okp_stuck
 | .ite c a b,ρ,M,P=>by rw [k_ite,w_t c];simp only [w_e a,w_e b,wE_ite,bK_if]
 | .tup cs,ρ,M,P=>by rw [k_tup,w_ds cs];rfl
 | .lst cs,ρ,M,P=>by rw [k_lst,w_ds cs];rfl
 | .sub a b,ρ,M,P=>by rw [k_sub,w_e a];simp only [w_e b,okp_opk,wE_sub]
 | .call f cs,ρ,M,P=>by rw [k_call,w_ds cs];rfl
 | .bi b cs,ρ,M,P=>by rw [k_bi,w_ws cs];simp only [okp_opk,wE_bi]
 | .me m o cs,ρ,M,P=>by rw [k_me,w_e o];simp only [w_ds cs,okp_opk,wE_me]
 | .dct ks cs,ρ,M,P=>by rw [k_dct,w_ds cs];rfl
 | .rng tp cs,ρ,M,P=>by simp only [ev_rng,okp_bind,wE_rng];rw [w_ws cs];simp only [okp_opk,opk_rng]
 | .glo x v,ρ,M,P=>by rw [ev_glo];exact okp_ok
 | .isTr ng a,ρ,M,P=>by simp only [ev_isTr,okp_bind,wE_isTr];rw [w_e a];simp only [okp_opk]
 | .xf a f,ρ,M,P=>by simp only [ev_xf,okp_bind,wE_xf];rw [w_e a];simp only [okp_opk]
 | .isx a k tb,ρ,M,P=>by simp only [ev_isx,okp_bind,wE_isx];rw [w_e a];simp only [okp_opk]
 | .hcall f cs,ρ,M,P=>by
  rw [ev_hcall,okp_bind,w_ds cs]
  show wDs G cs ρ M _=wDs G cs ρ M _
  congr 1;funext ds M
  exact okp_b1
 | .comp k src tg cond elt cap,ρ,M,P=>by rw [k_comp,w_ws src];simp only [okp_opk,wE_comp,opk_src]
theorem w_t {G:Fns}:∀ (c:Tst) (ρ:En) (M:Mem) (P:Bool->Mem->Prop),Okp (evT G c ρ M) P=wT G c ρ M P
 | .conj cs,ρ,M,P=>by rw [k_conj,w_all cs];rfl
 | .disj cs,ρ,M,P=>by rw [k_disj,w_any cs];rfl
 | .neg a,ρ,M,P=>by rw [k_neg,w_t a];rfl
 | .val c,ρ,M,P=>by
  rw [k_val,w_e c]
  simp only [wT_val]
  congr 1;funext w M
  cases truW M w with
  | none=>simp [truK]
  | some r=>simp [truK]
theorem w_and {G:Fns}:∀ (cs:List C) (ρ:En) (M:Mem) (P:W->Mem->Prop),Okp (evAnd G cs ρ M) P=wAnd G cs ρ M P
 | [],ρ,M,P=>by rw [evAnd_nil];exact okp_stuck
 | [c],ρ,M,P=>by simp only [evAnd_nil,evAnd_cons,wAnd_nil,wAnd_cons,okp_bind,okp_ok,w_e c]
 | c::b::cs,ρ,M,P=>by
  rw [evAnd_cons,wAnd_cons,okp_bind,w_e c]
  congr 1;funext x M
  rw [<- w_and (b::cs)]
  rcases x with ⟨_ | b | _|_|_|_|_⟩|_
  ·exact okp_stuck
  ·cases b with
   | true=>rfl
   | false=>exact okp_ok
  all_goals exact okp_stuck
theorem w_or {G:Fns}:∀ (cs:List C) (ρ:En) (M:Mem) (P:W->Mem->Prop),Okp (evOr G cs ρ M) P=wOr G cs ρ M P
 | [],ρ,M,P=>by rw [evOr_nil];exact okp_stuck
 | [c],ρ,M,P=>by simp only [evOr_nil,evOr_cons,wOr_nil,wOr_cons,okp_bind,okp_ok,w_e c]
 | c::b::cs,ρ,M,P=>by
  rw [evOr_cons,wOr_cons,okp_bind,w_e c]
  congr 1;funext x M
  rw [<- w_or (b::cs)]
  rcases x with ⟨_ | b | _|_|_|_|_⟩|_
  ·exact okp_stuck
  ·cases b with
   | true=>exact okp_ok
   | false=>rfl
  all_goals exact okp_stuck
theorem w_all {G:Fns}:∀ (cs:List Tst) (ρ:En) (M:Mem) (P:Bool->Mem->Prop),Okp (evAll G cs ρ M) P=wAll G cs ρ M P
 | [],ρ,M,P=>by rw [evAll_nil];exact okp_stuck
 | [c],ρ,M,P=>by rw [k_all1,w_t c];rfl
 | c::b::cs,ρ,M,P=>by rw [k_all2,w_t c];simp only [w_all (b::cs),<- bK_if];rfl
theorem w_any {G:Fns}:∀ (cs:List Tst) (ρ:En) (M:Mem) (P:Bool->Mem->Prop),Okp (evAny G cs ρ M) P=wAny G cs ρ M P
 | [],ρ,M,P=>by rw [evAny_nil];exact okp_stuck
 | [c],ρ,M,P=>by rw [k_any1,w_t c];rfl
 | c::b::cs,ρ,M,P=>by rw [k_any2,w_t c];simp only [w_any (b::cs),<- bK_if];rfl
theorem w_ds {G:Fns}:∀ (cs:List C) (ρ:En) (M:Mem) (P:List D->Mem->Prop),Okp (evDs G cs ρ M) P=wDs G cs ρ M P
 | [],ρ,M,P=>by rw [k_d0];rfl
 | c::cs,ρ,M,P=>by rw [k_d1,w_e c];simp only [w_ds cs,okp_opk,wDs_nil,wDs_cons]
theorem w_ws {G:Fns}:∀ (cs:List C) (ρ:En) (M:Mem) (P:List W->Mem->Prop),Okp (evWs G cs ρ M) P=wWs G cs ρ M P
 | [],ρ,M,P=>by rw [k_w0];rfl
 | c::cs,ρ,M,P=>by rw [k_w1,w_e c];simp only [w_ws cs,okp_opk,wWs_nil,wWs_cons]
theorem w_o {G:Fns}:∀ (o:Option C) (ρ:En) (M:Mem) (P:Option Int->Mem->Prop),Okp (evO G o ρ M) P=wO G o ρ M P
 | none,ρ,M,P=>by rw [k_o0];rfl
 | some c,ρ,M,P=>by
  simp only [evO_none,evO_some,okp_bind,wO_none,wO_some]
  rw [w_e c]
  congr 1;funext x M
  rcases x with ⟨_|_ | z | _|_|_|_⟩|_
  ·exact okp_stuck
  ·exact okp_stuck
  ·exact okp_ok
  all_goals exact okp_stuck
end
theorem w_own {G:Fns} {c:C} {ρ:En} {M:Mem} {P:D->Mem->Prop}:Okp ((ev G c ρ M).bind own) P=wE G c ρ M fun w M=>Opk (own w M) P:=by
 rw [okp_bind,w_e]
 simp only [okp_opk]
mutual
noncomputable def wS (G:Fns):S->En->Mem->(En->Mem->Prop)->(W->Mem->Prop)->(En->Mem->Prop)->(En->Mem->Prop)->Prop
 | .asg tg c,ρ,M,nx,_,_,_=>wE G c ρ M fun w M=>Opk (own w M) fun d M=>enK (bindT tg d ρ) fun ρ=>nx ρ M
 | .asgC i c,ρ,M,nx,_,_,_=>wE G c ρ M fun w M=>Opk (own w M) fun d M=>nx (ρ.set i (some d)) M
 | .put o i v,ρ,M,nx,_,_,_=>wE G v ρ M fun w M=>Opk (own w M) fun d M=>wE G o ρ M fun x M=>wE G i ρ M fun y M=>Opk (setW x y d M) fun _ M=>nx ρ M
 | .dput o i v,ρ,M,nx,_,_,_=>wE G v ρ M fun w M=>Opk (own w M) fun d M=>wE G o ρ M fun x M=>wE G i ρ M fun y M=>Opk (putTW x y d M) fun _ M=>nx ρ M
 | .par i j a b,ρ,M,nx,_,_,_=>wE G a ρ M fun w M=>Opk (own w M) fun x M=>wE G b ρ M fun w M=>Opk (own w M) fun y M=>nx ((ρ.set i (some x)).set j (some y)) M
 | .expr c,ρ,M,nx,_,_,_=>wE G c ρ M fun _ M=>nx ρ M
 | .ret c,ρ,M,_,rt,_,_=>wE G c ρ M rt
 | .retN,_,M,_,rt,_,_=>rt (.d .non) M
 | .iff t a b,ρ,M,nx,rt,bk,ct=>wT G t ρ M fun r M=>bK r (wSs G a ρ M nx rt bk ct) (wSs G b ρ M nx rt bk ct)
 | .forr tg k src b,ρ,M,nx,rt,bk,ct=>wWs G src ρ M fun ws M=>wSrc k ws M fun it M=>OkT (forGo (fun ρ M=>evSs G b ρ M) it tg (itLen M it) 0 ρ M) nx rt bk ct
 | .whl n t b,ρ,M,nx,rt,bk,ct=>OkT (whGo (fun ρ M=>evT G t ρ M) (fun ρ M=>evSs G b ρ M) n ρ M) nx rt bk ct
 | .rse a f c,ρ,M,_,_,_,_=>wDs G c ρ M fun ds M=>Er.er ⟨a,f.zip ds⟩ M
 | .tryc b cb mt j h,ρ,M,nx,rt,bk,ct=>OkT (evS G (.tryc b cb mt j h) ρ M) nx rt bk ct
 | .never,_,_,_,_,_,_=>False
 | .pass,ρ,M,nx,_,_,_=>nx ρ M
 | .brk,ρ,M,_,_,bk,_=>bk ρ M
 | .cont,ρ,M,_,_,_,ct=>ct ρ M
noncomputable def wSs (G:Fns):List S->En->Mem->(En->Mem->Prop)->(W->Mem->Prop)->(En->Mem->Prop)->(En->Mem->Prop)->Prop
 | [],ρ,M,nx,_,_,_=>nx ρ M
 | s::ss,ρ,M,nx,rt,bk,ct=>wS G s ρ M (fun ρ M=>wSs G ss ρ M nx rt bk ct) rt bk ct
end
section
variable {G:Fns} {lo hi:Option C} {cond:Option Tst} {nx bk ct:En->Mem->Prop} {rt:W->Mem->Prop}
theorem wS_asg:wS G (.asg tg c) ρ M nx u0 u1 u2=wE G c ρ M fun w M=>Opk (own w M) fun d M=>enK (bindT tg d ρ) fun ρ=>nx ρ M:=rfl
theorem wS_asgC:wS G (.asgC i c) ρ M nx u0 u1 u2=wE G c ρ M fun w M=>Opk (own w M) fun d M=>nx (ρ.set i (some d)) M:=rfl
theorem wS_put:wS G (.put o i v) ρ M nx u0 u1 u2=wE G v ρ M fun w M=>Opk (own w M) fun d M=>wE G o ρ M fun x M=>wE G i ρ M fun y M=>Opk (setW x y d M) fun _ M=>nx ρ M:=rfl
theorem wS_dput:wS G (.dput o i v) ρ M nx u0 u1 u2=wE G v ρ M fun w M=>Opk (own w M) fun d M=>wE G o ρ M fun x M=>wE G i ρ M fun y M=>Opk (putTW x y d M) fun _ M=>nx ρ M:=rfl
theorem wS_par:wS G (.par i j a b) ρ M nx u0 u1 u2=wE G a ρ M fun w M=>Opk (own w M) fun x M=>wE G b ρ M fun w M=>Opk (own w M) fun y M=>nx ((ρ.set i (some x)).set j (some y)) M:=rfl
theorem wS_iff:wS G (.iff t a b) ρ M nx rt bk ct=wT G t ρ M fun r M=>bK r (wSs G a ρ M nx rt bk ct) (wSs G b ρ M nx rt bk ct):=rfl
theorem wS_forr:wS G (.forr tg k src b) ρ M nx rt bk ct=wWs G src ρ M fun ws M=>wSrc k ws M fun it M=>OkT (forGo (fun ρ M=>evSs G b ρ M) it tg (itLen M it) 0 ρ M) nx rt bk ct:=rfl
theorem wS_whl:wS G (.whl n t b) ρ M nx rt bk ct=OkT (whGo (fun ρ M=>evT G t ρ M) (fun ρ M=>evSs G b ρ M) n ρ M) nx rt bk ct:=rfl
theorem wS_rse {f:List Str} {c:List C}:wS G (.rse a f c) ρ M u0 u1 u2 u3=wDs G c ρ M fun ds M=>Er.er ⟨a,f.zip ds⟩ M:=rfl
end
mutual
theorem w_s {G:Fns}:∀ (s:S) (ρ:En) (M:Mem) (nx:En->Mem->Prop) (rt:W->Mem->Prop) (bk ct:En->Mem->Prop),OkT (evS G s ρ M) nx rt bk ct=wS G s ρ M nx rt bk ct
 | .asg tg c,ρ,M,nx,rt,bk,ct=>by
  simp only [evS_asg,okt_ofE,wS_asg]
  rw [w_own]
  congr 1;funext w M
  congr 1;funext d M
  cases bindT tg d ρ with
  | none=>exact okt_stuck
  | some ρ=>exact okt_nx
 | .asgC i c,ρ,M,nx,rt,bk,ct=>by rw [t_asgC,w_e c];simp only [okp_opk,wS_asgC]
 | .put o i v,ρ,M,nx,rt,bk,ct=>by rw [t_put,w_e v];simp only [w_e o,w_e i,okp_opk,wS_put]
 | .dput o i v,ρ,M,nx,rt,bk,ct=>by
  simp only [evS_dput,okt_ofE,wS_dput]
  rw [w_own]
  simp only [w_e o,w_e i,okp_opk,okt_nx]
 | .par i j a b,ρ,M,nx,rt,bk,ct=>by
  simp only [evS_par,okt_ofE]
  rw [w_ds]
  show wE G a ρ M (fun w M=>Opk (own w M) fun x M=>wE G b ρ M fun w M=>Opk (own w M) fun y M=>OkT (.nx ((ρ.set i (some x)).set j (some y)) M) nx rt bk ct)=_
  simp only [okt_nx,wS_par]
 | .expr c,ρ,M,nx,rt,bk,ct=>by rw [t_expr,w_e c];rfl
 | .ret c,ρ,M,nx,rt,bk,ct=>by rw [t_ret,w_e c];rfl
 | .retN,ρ,M,nx,rt,bk,ct=>okt_rt
 | .iff t a b,ρ,M,nx,rt,bk,ct=>by rw [t_if,w_t t];simp only [w_ss a,w_ss b,wS_iff,bK_if]
 | .forr tg k src b,ρ,M,nx,rt,bk,ct=>by rw [t_for,w_ws src];simp only [okp_opk,wS_forr,opk_src]
 | .whl n t b,ρ,M,nx,rt,bk,ct=>by simp only [evS_whl,wS_whl]
 | .rse a f c,ρ,M,nx,rt,bk,ct=>by
  simp only [evS_rse,okt_ofE]
  rw [w_ds]
  simp only [okt_er,wS_rse]
 | .tryc b cb mt j h,ρ,M,nx,rt,bk,ct=>rfl
 | .never,ρ,M,nx,rt,bk,ct=>okt_stuck
 | .pass,ρ,M,nx,rt,bk,ct=>okt_nx
 | .brk,ρ,M,nx,rt,bk,ct=>okt_bk
 | .cont,ρ,M,nx,rt,bk,ct=>okt_ct
theorem w_ss {G:Fns}:∀ (ss:List S) (ρ:En) (M:Mem) (nx:En->Mem->Prop) (rt:W->Mem->Prop) (bk ct:En->Mem->Prop),OkT (evSs G ss ρ M) nx rt bk ct=wSs G ss ρ M nx rt bk ct
 | [],ρ,M,nx,rt,bk,ct=>t_nil
 | s::ss,ρ,M,nx,rt,bk,ct=>by rw [t_cons,w_s s];simp only [w_ss ss];rfl
end
theorem w_run {G:Fns} {n:Nat} {b:List S} {ds:List D} {M:Mem} {P:W->Mem->Prop}:Okp (runDef G n b ds M) P=wSs G b (startE n ds) M (fun _ M=>P (.d .non) M) P (fun _ _=>False) (fun _ _=>False):=by
 rw [okp_run,w_ss]
end
section
variable {K:PySem.W.Frag} {h:Heap} {mg:Str->Option Value}
noncomputable def refIn (K:PySem.W.Frag) (x:Str):Option Addr:=match PySem.W.nsIn K mainGlobals x with
 | some (some (.ref c))=>some c
 | _=>none
def refsIn (K:PySem.W.Frag):List Str->Option (List Addr)
 | []=>some []
 | x::xs=>match refIn K x,refsIn K xs with
  | some c,some cs=>some (c::cs)
  | _,_=>none
theorem ref_of (X:K.In h) (G:h.Ns mainGlobals mg) {x:Str} {c:Addr} (e:refIn K x=some c):mg x=some (.ref c):=by
 unfold refIn at e
 split at e
 ·rename_i q;cases e;exact zqa3 X G q
 ·cases e
theorem refs_of (X:K.In h) (G:h.Ns mainGlobals mg):∀ {xs:List Str} {cs:List Addr},refsIn K xs=some cs->xs.map mg=cs.map (fun c=>some (.ref c))
 | [],cs,e=>by cases e;rfl
 | x::xs,cs,e=>by
  unfold refsIn at e
  split at e
  ·rename_i c cs' e1 e2
   cases e
   rw [zqbm,zqbm,ref_of X G e1,refs_of X G e2]
  ·cases e
noncomputable def isOpt (o:Option Bool) (b:Bool):Bool:=match o with
 | some c=>c == b
 | none=>false
theorem isOpt_eq {o:Option Bool} {b:Bool} (e:isOpt o b=true):o=some b:=by
 cases o with
 | none=>cases e
 | some c=>rw [eq_of_beq (show (c == b)=true from e)]
def ktB1 (K:PySem.W.Frag) (C:Addr) (r:Bool):IX->Bool
 | .one x=>match refIn K x with
  | some c=>isOpt (PySem.W.kitOne K (.ref C) (.ref c)) r
  | none=>false
 | .ve=>(match PySem.W.nsIn K mainGlobals "ValueError" with | some none=>true | _=>false) && isOpt (PySem.W.kitOne K (.ref C) (.type "ValueError")) r
 | .many xs=>match refsIn K xs with
  | some cs=>isOpt (PySem.W.kitAny K (.ref C) (cs.map Value.ref)) r
  | none=>false
def ktB (K:PySem.W.Frag) (l:List (IX×Addr×Bool)):Bool:=l.all fun p=>ktB1 K p.2.1 p.2.2 p.1
theorem kt_of (X:K.In h) (G:h.Ns mainGlobals mg) {l:List (IX×Addr×Bool)} (z:ktB K l=true):∀ k C r,(k,C,r)∈l->KitIs K mg k C r:=by
 intro k C r hm
 have q:ktB1 K C r k=true:=zqa5.mp z _ hm
 cases k with
 | one x =>
  have q:(match refIn K x with
   | some c=>isOpt (PySem.W.kitOne K (.ref C) (.ref c)) r
   | none=>false)=true:=q
  split at q
  ·rename_i c e;exact ⟨c,ref_of X G e,isOpt_eq q⟩
  ·cases q
 | ve =>
  have q:((match PySem.W.nsIn K mainGlobals "ValueError" with | some none=>true | _=>false) && isOpt (PySem.W.kitOne K (.ref C) (.type "ValueError")) r)=true:=q
  replace q:=(zqab _ _).mp q
  refine ⟨?_,isOpt_eq q.2⟩
  have q1:=q.1
  split at q1
  ·rename_i e;exact PySem.W.mg_none_of X G e
  ·cases q1
 | many xs =>
  have q:(match refsIn K xs with
   | some cs=>isOpt (PySem.W.kitAny K (.ref C) (cs.map Value.ref)) r
   | none=>false)=true:=q
  split at q
  ·rename_i cs e;exact ⟨cs,refs_of X G e,isOpt_eq q⟩
  ·cases q
def ctB (K:PySem.W.Frag) (l:List (Str×Addr×List Str)):Bool:=l.all fun p=>match refIn K p.1 with
 | some B=>isOpt (PySem.W.kitCls K (.ref p.2.1) (.ref B)) true && isOpt (PySem.W.kitCls K (.ref B) (.type "BaseException")) true
 | none=>false
theorem ct_of (X:K.In h) (G:h.Ns mainGlobals mg) {l:List (Str×Addr×List Str)} (z:ctB K l=true) (hx:∀ cb C fs,(cb,C,fs)∈l->∃ D fI,XIn K C D fI fs):∀ cb C fs,(cb,C,fs)∈l->CatIs K mg cb C fs:=by
 intro cb C fs hm
 have q:=zqa5.mp z _ hm
 dsimp only at q
 obtain ⟨D,fI,xi⟩:=hx cb C fs hm
 split at q
 ·rename_i B e
  replace q:=(zqab _ _).mp q
  exact ⟨B,D,fI,ref_of X G e,isOpt_eq q.1,isOpt_eq q.2,xi⟩
 ·cases q
end
theorem XIn.of {K:PySem.W.Frag} {C Da fI N:Addr} {f:List Str} {nm q:Str} {bs sub:List Value} {sn:List Str} {ab:Bool} {nF:Option Bool} {dd de:Option Addr} {k0 k1 k2 k3 k5:Option Value} {c0:Value} {cd:ClassData} {sl:Array (Option Value)} (l1:K.lookup C=some (excClassObj nm q C N bs (.ref Da::VE) true sn sub ab nF dd k0 k1 k2 k3 k5 "ValueError.__new__")) (o1:PySem.W.nsOkIn K N=true) (i1:PySem.W.nsIn K N "__init__" = some (some (.ref fI))) (n1:((f++qnames).all fun n=>match PySem.W.nsIn K N n with | some none=>true | _=>false)=true) (l2:K.lookup Da=some { cls:=c0,dict:=de,data:=.cls cd,slots:=sl }) (o2:PySem.W.nsOkIn K cd.ns=true) (n2:((("__init__" : Str)::(f++qnames)).all fun n=>match PySem.W.nsIn K cd.ns n with | some none=>true | _=>false)=true) (ve:∀ g∈f,typeLookup (.type "ValueError") g=pure none):XIn K C Da fI f:=by
 have al:∀ {M:Addr} {l:List Str},(l.all fun n=>match PySem.W.nsIn K M n with | some none=>true | _=>false)=true->∀ n∈l,PySem.W.nsIn K M n=some none:=fun {M l} z n hn=>by
  have q:=zqa5.mp z n hn
  split at q
  ·assumption
  ·cases q
 exact ⟨⟨nm,q,N,bs,sn,sub,ab,nF,dd,k0,k1,k2,k3,k5,l1,o1,i1,al n1⟩,⟨c0,de,cd,sl,l2,o2,al n2⟩,ve⟩
theorem ve_of {f:List Str} (h:f.all (fun g=>match fastLookup "ValueError" g with | some none=>true | _=>false)=true):∀ g∈f,typeLookup (.type "ValueError") g=pure none:=fun g hg=>by
 have q:=zqa5.mp h g hg
 rw [typeLookup_type,builtinLookup_eq_fast]
 split at q
 ·rename_i e;rw [e]
 ·cases q
section
variable [er:Er]
abbrev Fn:=List D->Mem->Out W
noncomputable def Fr (w:Nat) (M M':Mem):Prop:=M.length<=M'.length/\∀ n,n < M.length->n≠w->M'[n]?=M[n]?
abbrev Ex (M M':Mem):Prop:=Fr M.length M M'
theorem lt_of_get {M:Mem} {n:Nat} {o:MO} (h:M[n]?=some o):n < M.length:=(zqak.mp h).1
theorem app_get {M X:Mem} {n:Nat} {o:MO} (h:M[n]?=some o):(M++X)[n]?=some o:=by rw [zqal (lt_of_get h)];exact h
theorem app_last {M:Mem} {o:MO}:(M++[o])[M.length]?=some o:=by simp
theorem set_same {M:Mem} {n:Nat} {o u:MO} (h:M[n]?=some o):(M.set n u)[n]?=some u:=zqbf (lt_of_get h)
theorem Fr.refl (w:Nat) (M:Mem):Fr w M M:=⟨zqae _,fun _ _ _=>rfl⟩
theorem Fr.app {w:Nat} {M M1 X:Mem} (a:Fr w M M1):Fr w M (M1++X):=⟨by have:=a.1;simp only [zqau];omega,fun n h k=>by rw [zqal (zqao h a.1)];exact a.2 n h k⟩
theorem Fr.setw {w:Nat} {M M1:Mem} {o:MO} (a:Fr w M M1):Fr w M (M1.set w o):=⟨by rw [zqb5];exact a.1,fun m hm k=>by rw [zqbe (zqbd k)];exact a.2 m hm k⟩
theorem Fr.get {w n:Nat} {M M1:Mem} {o:MO} (a:Fr w M M1) (h:M[n]?=some o) (k:n≠w):M1[n]?=some o:=(a.2 n (lt_of_get h) k).trans h
theorem Ex.refl (M:Mem):Ex M M:=Fr.refl _ M
theorem Ex.get {n:Nat} {M M1:Mem} {o:MO} (a:Ex M M1) (h:M[n]?=some o):M1[n]?=some o:=Fr.get a h (zqa4 (lt_of_get h))
section
variable {M:Mem} {n:Nat} {ds:List D} {i:Int} {x:D}
theorem ix_at (hi:0<=i) (h:ds[i.toNat]?=some x):ixD ds i=some x:=by
 have hl:=(zqak.mp h).1
 unfold ixD atI ixN
 rw [zqav hi,zqav (∅)]
 exact h
theorem sub_lv (hi:0<=i) (h:ds[i.toNat]?=some x):subW (.lv ds) (.d (.int i)) M=.ok (.d x) M:=by
 unfold subW seqW;simp only [ix_at hi h]
theorem sub_ls (hi:0<=i) (h:ds[i.toNat]?=some x):subW (.d (.ls ds)) (.d (.int i)) M=.ok (.d x) M:=by
 unfold subW seqW;simp only [ix_at hi h]
theorem put_lst {m:Nat} (hM:M[n]?=some (.lst ds)) (hm:m < ds.length):setW (.d (.adr n)) (.d (.int m)) x M=.ok () (M.set n (.lst (ds.set m x))):=by
 unfold setW;simp only [hM]
 have:ixN ds.length (m:Int)=some m:=by
  unfold ixN
  rw [zqav (∅),zqav (∅)]
  simp
 simp only [this]
end
theorem small_le {n:Nat} (h:n<=1000):n<=sizeLine:=zqat h (by decide)
theorem sh_str {x:Str} (h:PyData.strOk x=true):SeqAt.shaped (.str x)=true:=by
 unfold SeqAt.shaped
 rw [PyData.canLay0.eq_4,h,PyData.depth.eq_7];rfl
theorem eqv_str {x y:Str}:PyData.eqv (.str x) (.str y)=(x == y):=PyData.eqv.eq_6 x y
theorem py_str {M:Mem} {x:Str}:pyW M (.d (.str x))=some (.str x):=by show pyD M 30 (.str x)=_;unfold pyD;rfl
theorem c_neS {M:Mem} {x y:Str} (hx:PyData.strOk x=true) (hy:PyData.strOk y=true):cmpW .ne (.d (.str x)) (.d (.str y)) M=.ok (!(x == y)) M:=by
 unfold cmpW;simp only [py_str,sh_str hx,sh_str hy,and_self,zqcf,eqv_str]
section
variable {G:Fns} {b:List S} {tg:List Nat} {ρ:En} {M:Mem} {nx:En->Mem->Prop} {rt:W->Mem->Prop} {bk ct:En->Mem->Prop}
theorem f_rng {lo:Int} {n:Nat} (I:Nat->En->Mem->Prop) (h0:I 0 ρ M) (hs:∀ i ρ M,i < n->I i ρ M->enK (bindT tg (.int (lo+i)) ρ) fun ρ=>wSs G b ρ M (I (i+1)) rt nx (I (i+1))) (he:∀ ρ M,I n ρ M->nx ρ M):OkT (forGo (fun ρ M=>evSs G b ρ M) (.rng lo n) tg n 0 ρ M) nx rt bk ct:=by
 have hlen:((List.range n).map fun i=>D.int (lo+(i:Nat))).length=n:=by simp
 refine for_ok (ds:=(List.range n).map fun i=>D.int (lo+(i:Nat))) I (fun i ρ M _ hi=>?_) (fun i ρ M d h e=>?_) (fun ρ M h=>he ρ M (by rw [hlen] at h;exact h)) n 0 ρ M h0 (by rw [hlen];omega)
 ·rw [hlen] at hi
  show some (if i < n then some (D.int (lo+i)) else none)=_
  by_cases q:i < n
  ·rw [zqav q];simp [q]
  ·rw [zqax q,List.getElem?_eq_none (by rw [hlen];omega)]
 ·have hi:i < n:=by have:=(zqak.mp e).1;rw [hlen] at this;exact this
  have:d=.int (lo+i):=by rw [zqbg,List.getElem?_range hi] at e;exact (zqag e).symm
  subst this
  have q:=hs i ρ M hi h
  cases e2:bindT tg (.int (lo+i)) ρ with
  | none=>rw [e2] at q;exact q.elim
  | some ρ'=>rw [e2] at q;exact ⟨ρ',rfl,by rw [w_ss];exact q⟩
end
end
section
variable [er:Er]
section
variable {G:Fns} {ρ:En} {M:Mem} {P:W->Mem->Prop} {B:Bool->Mem->Prop}
theorem x_sub {a b:C}:wE G (.sub a b) ρ M P=wE G a ρ M fun x M=>wE G b ρ M fun y M=>Opk (subW x y M) P:=rfl
theorem x_call {f:Nat} {cs:List C}:wE G (.call f cs) ρ M P=wDs G cs ρ M fun ds M=>Okp (G f ds M) P:=rfl
end
end
end Ev
end
local macro_rules
  | `(tactic| nofun) => `(tactic| conv => whnf)
section
namespace Ev
open L2
open PySem PySem.Spec PyProof.Rows
noncomputable def bWell:List S:=[.asg [2] (.bin .mul (.kn 31) 1),.iff (.val (.cmp .gt (.bi .len [0]) (.kn 0))) [.asg [2] (.bin .add (.sub 0 (.bin .mod 1 (.bi .len [0]))) (.bin .mul (.kn 7919) (.bin .fdiv 1 (.bi .len [0]))))] [],.ret (.dct ["cell","left","turn"] [2,(.bin .mul (.bi .max2 [(.kn 0),2]) (.bi .int1 [(.cmp .ge 2 (.bin .pow (.kn 10) (.kn 18)))])),(.kn 0)])]
noncomputable def bDraw:List S:=[.asg [2] (.sub 0 (.cst (.str "turn"))),.put 0 (.cst (.str "turn")) (.bin .add 2 (.kn 1)),.asg [3] (.sub 0 (.cst (.str "left"))),.iff (.val (.cmp .gt 3 (.kn 0))) [.put 0 (.cst (.str "left")) (.bin .fdiv 3 1),.ret (.bin .mod 3 1)] [],.asg [4] (.bin .add (.bin .add (.bin .mod (.sub 0 (.cst (.str "cell"))) (.kn 2147483647)) (.bin .mul (.bin .mul (.kn 31) 2) 2)) (.kn 1)),.asg [5] (.bin .mod (.bin .mul 4 (.bin .add (.kn 48271) (.bin .mul (.kn 40) 2))) (.kn 2147483629)),.ret (.bin .mod (.bin .fdiv (.bin .mod (.bin .add (.bin .mul (.bin .fdiv 5 (.kn 11)) (.kn 69621)) 2) (.kn 998244353)) (.kn 7)) 1)]
noncomputable def wellO (c l t:Int):MO:=.dK [(Sum.inr ("cell" : Str),.int c),(Sum.inr ("left" : Str),.int l),(Sum.inr ("turn" : Str),.int t)]
section
variable {M:Mem} {w:Nat} {c l t:Int}
theorem get_cell (h:M[w]?=some (wellO c l t)):subW (.d (.adr w)) (.d (.str "cell")) M=.ok (.d (.int c)) M:=by
 unfold subW;simp only [h];rfl
theorem get_left (h:M[w]?=some (wellO c l t)):subW (.d (.adr w)) (.d (.str "left")) M=.ok (.d (.int l)) M:=by
 unfold subW;simp only [h];rfl
theorem get_turn (h:M[w]?=some (wellO c l t)):subW (.d (.adr w)) (.d (.str "turn")) M=.ok (.d (.int t)) M:=by
 unfold subW;simp only [h];rfl
theorem put_left (h:M[w]?=some (wellO c l t)) (i:Int):setW (.d (.adr w)) (.d (.str "left")) (.int i) M=.ok () (M.set w (wellO c i t)):=by
 unfold setW;simp only [h];rfl
theorem put_turn (h:M[w]?=some (wellO c l t)) (i:Int):setW (.d (.adr w)) (.d (.str "turn")) (.int i) M=.ok () (M.set w (wellO c l i)):=by
 unfold setW;simp only [h];rfl
end
theorem draw_ok {G:Fns} {M:Mem} {w:Nat} {c l t many:Int} (h:M[w]?=some (wellO c l t)) (ht:0<=t/\t < 2 ^ 40) (hl:0<=l) (hm:0 < many/\many < 1073741824):Okp (runDef G 6 bDraw [.adr w,.int many] M) fun r M'=>∃ i l',r=.d (.int i)/\0<=i/\i < many/\0<=l'/\M'=M.set w (wellO c l' (t+1)):=by
 have hw:w < M.length:=(zqak.mp h).1
 rw [w_run]
 show wSs G bDraw [some (.adr w),some (.int many),none,none,none,none] M _ _ _ _
 have h1:(M.set w (wellO c l (t+1)))[w]?=some (wellO c l (t+1)):=zqbf hw
 nofun
 rw [get_turn h]
 nofun
 rw [put_turn h]
 nofun
 rw [get_left h1]
 nofun
 by_cases hp:0 < l
 ·rw [zqbo hp]
  nofun
  refine ⟨hm,?_⟩
  nofun
  rw [put_left h1]
  nofun
  refine ⟨hm.1,_,l / many,rfl,zqc3 _ (∅),zqck _ hm.1,Int.ediv_nonneg hl (∅),?_⟩
  rw [List.set_set]
 ·rw [zqay hp]
  nofun
  rw [get_cell h1]
  nofun
  refine ⟨∅,?_⟩
  nofun
  refine ⟨∅,?_⟩
  nofun
  refine ⟨∅,?_⟩
  nofun
  refine ⟨∅,?_⟩
  nofun
  refine ⟨∅,?_⟩
  nofun
  refine ⟨∅,?_⟩
  nofun
  refine ⟨∅,?_⟩
  nofun
  refine ⟨∅,?_⟩
  nofun
  refine ⟨∅,?_⟩
  nofun
  refine ⟨∅,?_⟩
  nofun
  exact ⟨hm.1,_,l,rfl,zqc3 _ (∅),zqck _ hm.1,hl,rfl⟩
def WA (M:Mem) (w:Nat) (T:Int):Prop:=∃ c l t,M[w]?=some (wellO c l t)/\0<=l/\0<=t/\t<=T
def DrawAt (F:Fn):Prop:=∀ (M:Mem) (w:Nat) (T many:Int),WA M w T->T < 2 ^ 40->0 < many->many < 1073741824->Okp (F [.adr w,.int many] M) fun r M'=>∃ i,r=.d (.int i)/\0<=i/\i < many/\WA M' w (T+1)/\Fr w M M'
theorem drawAt {G:Fns}:DrawAt (runDef G 6 bDraw):=by
 intro M w T many ⟨c,l,t,h,hl,h0,h1⟩ hT hm hm2
 refine (draw_ok h ⟨h0,∅⟩ hl ⟨hm,hm2⟩).imp ?_
 rintro r M' ⟨i,l',e,a,b,hl',rfl⟩
 exact ⟨i,e,a,b,⟨c,l',t+1,set_same h,hl',∅,∅⟩,(Fr.refl w M).setw⟩
def WellF (F:Fn):Prop:=∀ (M:Mem) (ns:List Int) (k:Int),0<=k->k < 2 ^ 40->ns.length<=63->Okp (F [.ls (ns.map D.int),.int k] M) fun r M'=>r=.d (.adr M.length)/\M'.length=M.length+1/\WA M' M.length 0/\Fr M.length M M'
theorem wellF {G:Fns}:WellF (runDef G 3 bWell):=by
 intro M ns k hk hk2 hns
 rw [w_run]
 show wSs G bWell [some (.ls (ns.map D.int)),some (.int k),none] M _ _ _ _
 have fin:∀ (c:Int) (b:Bool),WA (M++[MO.dK ((List.map Sum.inr [(("cell" : Str)),"left","turn"]).zip [D.int c,D.int ((if c > 0 then c else 0) * if b=true then 1 else 0),D.int 0])]) M.length 0:=by
  intro c b
  refine ⟨c,_,0,app_last,?_,Int.le_refl _,Int.le_refl _⟩
  refine Int.mul_nonneg ?_ ?_ <;> split <;> omega
 have hb:∀ b:Bool,(-(2 ^ 64):Int) < (if b=true then 1 else 0)/\(if b=true then 1 else 0) < (2 ^ 64:Int):=fun b=>by split <;> omega
 have hlen:∀ x:MO,(M++[x]).length=M.length+1:=fun x=>by simp
 nofun
 refine ⟨∅,?_⟩
 nofun
 by_cases hp:(0:Int) < (ns.map D.int).length
 ·rw [zqbo hp]
  have hl:(ns.map D.int).length=ns.length:=zqaz _
  have hr:0<=k % ((ns.map D.int).length:Int):=zqc3 _ (∅)
  have hr2:k % ((ns.map D.int).length:Int) < ((ns.map D.int).length:Int):=zqck _ hp
  have hlt:(k % ((ns.map D.int).length:Int)).toNat < ns.length:=∅
  have hg:(ns.map D.int)[(k % ((ns.map D.int).length:Int)).toNat]?=some (.int ns[(k % ((ns.map D.int).length:Int)).toNat]):=by
   rw [zqbg,zqa6 hlt];rfl
  nofun
  refine ⟨∅,?_⟩
  nofun
  rw [sub_ls hr hg]
  nofun
  refine ⟨⟨∅,∅⟩,?_⟩
  nofun
  refine ⟨.inl (∅),?_⟩
  nofun
  refine ⟨.inr (hb _),?_⟩
  nofun
  exact ⟨rfl,rfl,hlen _,fin _ _,(Fr.refl _ M).app⟩
 ·rw [zqay hp]
  nofun
  refine ⟨.inr (hb _),?_⟩
  nofun
  exact ⟨rfl,rfl,hlen _,fin _ _,(Fr.refl _ M).app⟩
theorem ok_app (a b:Str):PyData.strOk (a++b)=(PyData.strOk a && PyData.strOk b):=by
 show (a.cps++b.cps).all _=_
 rw [Array.all_append]
 rfl
noncomputable def Tx (b:Nat) (x:Str):Prop:=x.length<=b/\PyData.strOk x=true
theorem Tx.app {a b:Nat} {x y:Str} (h:Tx a x) (k:Tx b y):Tx (a+b) (x++y):=⟨by rw [strLen_append];have:=h.1;have:=k.1;omega,by rw [ok_app,h.2,k.2];rfl⟩
theorem Tx.mono {a b:Nat} {x:Str} (h:Tx a x) (k:a<=b):Tx b x:=⟨zqat h.1 k,h.2⟩
theorem tx_join {b:Nat}:∀ {l:List Str},(∀ x∈l,Tx b x)->Tx (l.length * (b+2)) ((Str.ofString ", ").join l)
 | [],_=>by rw [Str.join.eq_1];exact ⟨Nat.zero_le _,⋯⟩
 | [x],h=>by rw [Str.join.eq_2];exact (h x (zqar ..)).mono (by simp)
 | x::y::r,h=>by
  rw [Str.join.eq_3 _ _ _ (fun q=>by cases q)]
  have h1:=h x (zqar ..)
  have h2:=tx_join (l:=y::r) fun z hz=>h z (zqai _ hz)
  have h3:Tx 2 (Str.ofString ", "):=⟨⋯,⋯⟩
  refine ((h1.app h3).app h2).mono ?_
  rw [zqa2 (a:=x),Nat.add_mul]
  omega
theorem tx_tuple {b:Nat} {l:List Str} (h:∀ x∈l,Tx b x):Tx (l.length * (b+2)+3) (tupleText l):=by
 unfold tupleText
 have h1:Tx 1 (Str.ofString "("):=⟨⋯,⋯⟩
 have h2:Tx 2 (Str.ofString (if (l.length == 1)=true then ",)" else ")")):=by
  split <;> exact ⟨⋯,⋯⟩
 exact ((h1.app (tx_join h)).app h2).mono (∅)
theorem tx_from {b:Nat}:∀ {l:List Str} {n a:Nat} {x:Str},Tx a x->(∀ x∈l,Tx b x)->Tx (a+l.length * (b+2)) (textFrom n x l)
 | [],_,_,_,h,_=>by rw [textFrom.eq_1];exact h.mono (by simp)
 | t::ts,n,a,x,h,k=>by
  rw [textFrom.eq_2]
  have h2:Tx 2 (Str.ofString (if n > 0 then ", " else "")):=by split <;> exact ⟨⋯,⋯⟩
  refine (tx_from (l:=ts) (n:=n+1) ((h.app h2).app (k t (zqar ..))) fun z hz=>k z (zqai _ hz)).mono ?_
  rw [zqa2,Nat.add_mul]
  omega
theorem tx_list {b:Nat} {l:List Str} (h:∀ x∈l,Tx b x):Tx (l.length * (b+2)+2) (listText l):=by
 unfold listText
 have h1:Tx 1 (Str.ofString "["):=⟨⋯,⋯⟩
 have h2:Tx 1 (Str.ofString "]"):=⟨⋯,⋯⟩
 exact ((tx_from h1 h).app h2).mono (∅)
def SmP (b h:Nat) (p:PyData):Prop:=p.canLay0=true/\p.showable=true/\p.depth<=h/\Tx b p.shown
def Sm (b h:Nat) (d:D):Prop:=∃ p:PyData,(∀ M n,h<=n->pyD M n d=some p)/\SmP b h p
theorem Sm.mono {b c h k:Nat} {d:D} (x:Sm b h d) (hb:b<=c) (hk:h<=k):Sm c k d:=by
 obtain ⟨p,e,q1,q2,q3,q4⟩:=x
 exact ⟨p,fun M n hn=>e M n (∅),q1,q2,∅,q4.mono hb⟩
theorem Sm.str {x:Str} {b:Nat} (h:PyData.strOk x=true) (k:Tx b (reprText x)):Sm b 0 (.str x) :=
 ⟨.str x,fun M n _=>by cases n <;> (unfold pyD;rfl),(PyData.canLay0.eq_4 x).trans h,PyData.showable.eq_3 x,zqc0 (PyData.depth.eq_7 x),by rw [PyData.shown.eq_4];exact k⟩
theorem SmP.all {b h:Nat}:∀ {ps:List PyData},(∀ p∈ps,SmP b h p)->PyData.canLayAll0 ps=true/\PyData.showableAll ps=true/\PyData.depthAll ps<=h/\(∀ x∈PyData.shownAll ps,Tx b x)/\(PyData.shownAll ps).length=ps.length
 | [],_=>⟨PyData.canLayAll0.eq_1,PyData.showableAll.eq_1,by rw [PyData.depthAll.eq_1];omega,by rw [PyData.shownAll.eq_1];intro x h;(cases h),by rw [PyData.shownAll.eq_1];rfl⟩
 | p::ps,q=>by
  obtain ⟨a1,a2,a3,a4,a5⟩:=SmP.all (ps:=ps) fun p hp=>q p (zqai _ hp)
  obtain ⟨b1,b2,b3,b4⟩:=q p (zqar ..)
  refine ⟨by rw [PyData.canLayAll0.eq_2,a1,b1];rfl,by rw [PyData.showableAll.eq_2,a2,b2];rfl,by rw [PyData.depthAll.eq_2];omega,?_,by rw [PyData.shownAll.eq_2,zqa2,a5,zqa2]⟩
  rw [PyData.shownAll.eq_2]
  intro x hx
  rcases zqaq.mp hx with rfl | hx
  ·exact b4
  ·exact a4 x hx
theorem SmP.tup {b h k:Nat} {ps:List PyData} (q:∀ p∈ps,SmP b h p) (hk:ps.length<=k):SmP (k * (b+2)+3) (h+1) (.tuple ps):=by
 obtain ⟨a1,a2,a3,a4,a5⟩:=SmP.all q
 refine ⟨(PyData.canLay0.eq_6 ps).trans a1,(PyData.showable.eq_6 ps).trans a2,by rw [PyData.depth.eq_2];omega,?_⟩
 rw [PyData.shown.eq_6]
 refine (tx_tuple a4).mono ?_
 rw [a5]
 exact Nat.add_le_add_right (Nat.mul_le_mul_right _ hk) _
theorem SmP.list {b h k:Nat} {ps:List PyData} (q:∀ p∈ps,SmP b h p) (hk:ps.length<=k):SmP (k * (b+2)+2) (h+1) (.list ps):=by
 obtain ⟨a1,a2,a3,a4,a5⟩:=SmP.all q
 refine ⟨(PyData.canLay0.eq_5 ps).trans a1,(PyData.showable.eq_5 ps).trans a2,by rw [PyData.depth.eq_1];omega,?_⟩
 rw [PyData.shown.eq_5]
 refine (tx_list a4).mono ?_
 rw [a5]
 exact Nat.add_le_add_right (Nat.mul_le_mul_right _ hk) _
theorem Sm.ds {b h:Nat}:∀ {ds:List D},(∀ d∈ds,Sm b h d)->∃ ps,(∀ M n,h<=n->pyDs M n ds=some ps)/\(∀ p∈ps,SmP b h p)/\ps.length=ds.length
 | [],_=>⟨[],fun M n _=>by unfold pyDs;rfl,(by intro p h;cases h),rfl⟩
 | d::ds,q=>by
  obtain ⟨ps,e,a,l⟩:=Sm.ds (ds:=ds) fun d hd=>q d (zqai _ hd)
  obtain ⟨p,ep,ap⟩:=q d (zqar ..)
  refine ⟨p::ps,fun M n hn=>by unfold pyDs;rw [ep M n hn,e M n hn],?_,by simp [l]⟩
  intro x hx
  rcases zqaq.mp hx with rfl | hx
  ·exact ap
  ·exact a x hx
theorem Sm.tup {b h k:Nat} {ds:List D} (q:∀ d∈ds,Sm b h d) (hk:ds.length<=k):Sm (k * (b+2)+3) (h+1) (.tup ds):=by
 obtain ⟨ps,e,a,l⟩:=Sm.ds q
 refine ⟨.tuple ps,fun M n hn=>?_,SmP.tup a (∅)⟩
 obtain ⟨n,rfl⟩:∃ m,n=m+1:=⟨n - 1,∅⟩
 unfold pyD
 rw [e M n (∅)]
 rfl
section
variable {M:Mem} {n:Nat} {ds:List D} {i:Int} {x:D}
abbrev iD (ks:List Int):List D:=ks.map D.int
theorem py_ints {k:Nat}:∀ (ks:List Int),pyDs M k (iD ks)=some (ks.map PyData.int)
 | []=>by show pyDs M k []=_;unfold pyDs;rfl
 | i::ks=>by
  show pyDs M k (.int i::iD ks)=_
  unfold pyDs
  have:pyD M k (.int i)=some (.int i):=by cases k <;> (unfold pyD;rfl)
  rw [this,py_ints ks]
  rfl
theorem sh_ints:∀ (ks:List Int),(ks.map PyData.int).all SeqAt.shaped=true
 | []=>rfl
 | i::ks=>by
  show (SeqAt.shaped (.int i) && (ks.map PyData.int).all SeqAt.shaped)=true
  rw [sh_int,sh_ints ks];rfl
theorem in_ints {i:Int}:∀ (ks:List Int),inPy (.int i) (ks.map PyData.int)=decide (i∈ks)
 | []=>by simp [inPy]
 | k::ks=>by
  show (PyData.eqv (.int k) (.int i) || inPy (.int i) (ks.map PyData.int))=_
  rw [in_ints ks,PyData.eqv.eq_5]
  by_cases h:k=i
  ·subst h;simp
  ·have h2:(k == i)=false:=zqb2.mpr h
   rw [h2,Bool.false_or]
   by_cases h3:i∈ks
   ·rw [zqbo h3,zqbo (zqai _ h3)]
   ·rw [zqay h3,zqay (fun z=>by
     rcases zqaq.mp z with z | z
     ·exact h z.symm
     ·exact h3 z)]
theorem py_int {i:Int}:pyW M (.d (.int i))=some (.int i):=by show pyD M 30 (.int i)=_;unfold pyD;rfl
theorem in_tup {i:Int} {ks:List Int}:cmpW .isin (.d (.int i)) (.d (.tup (iD ks))) M=.ok (decide (i∈ks)) M:=by
 unfold cmpW;simp only [py_int,seqW,py_ints,sh_int,sh_ints,and_self,zqcf,in_ints]
end
end Ev
end
section
namespace Qk16
open Ev PySem
abbrev Fu:=List D->Mem->Out W
abbrev c0 (l:List Fu):=l
def n0:List Str:=["_law_script","_law_k","_law_cell"]
def b0:List S:=bWell
def f0:Fu:=runDef (tab (c0 [])) 3 b0
abbrev c1 (l:List Fu):=c0 (f0::l)
noncomputable def n1:List Str:=["_law_well_here","_law_many","_law_turn","_law_left","_law_here","_law_mixed"]
def b1:List S:=bDraw
def f1:Fu:=runDef (tab (c1 [])) 6 b1
abbrev c2 (l:List Fu):=c1 (f1::l)
def n2:List Str:=["_law_way","_law_one","_law_word"]
noncomputable def b2:List S:=[.iff (.val (.cmp .eq 0 (.kn 0))) [.rse 44 ["word","number"] [2,1]] [],.iff (.val (.cmp .eq 0 (.kn 1))) [.rse 63 ["number"] [1]] [],.iff (.val (.cmp .eq 0 (.kn 2))) [.rse 82 ["place","word"] [1,2]] [],.iff (.val (.cmp .eq 0 (.kn 3))) [.rse 101 ["word","number"] [2,1]] [],.iff (.val (.cmp .eq 0 (.kn 4))) [.rse 120 ["machine","choice"] [1,(.bin .add 1 (.kn 1))]] [],.iff (.val (.cmp .eq 0 (.kn 5))) [.rse 139 ["machine","choice","word"] [1,(.bin .sub 1 (.kn 1)),2]] [],.iff (.val (.cmp .eq 0 (.kn 6))) [.rse 158 ["number","word"] [1,2]] [],.iff (.val (.cmp .eq 0 (.kn 7))) [.rse 177 ["machine","word"] [1,2]] [],.iff (.val (.cmp .eq 0 (.kn 8))) [.rse 196 ["number"] [1]] [],.iff (.val (.cmp .eq 0 (.kn 9))) [.rse 215 ["at"] [1]] [],.rse 234 ["text"] [2]]
def f2:Fu:=runDef (tab (c2 [])) 3 b2
abbrev c3 (l:List Fu):=c2 (f2::l)
def n3:List Str:=["_law_way","_law_e"]
noncomputable def b3:List S:=[.iff (.val (.cmp .isin 0 (.tup [(.kn 0),(.kn 3)]))) [.ret (.tup [(.xf 1 "word"),(.xf 1 "number")])] [],.iff (.val (.cmp .isin 0 (.tup [(.kn 1),(.kn 8)]))) [.ret (.tup [(.xf 1 "number")])] [],.iff (.val (.cmp .eq 0 (.kn 2))) [.ret (.tup [(.xf 1 "place"),(.xf 1 "word")])] [],.iff (.val (.cmp .eq 0 (.kn 4))) [.ret (.tup [(.xf 1 "machine"),(.xf 1 "choice")])] [],.iff (.val (.cmp .eq 0 (.kn 5))) [.ret (.tup [(.xf 1 "machine"),(.xf 1 "choice"),(.xf 1 "word")])] [],.iff (.val (.cmp .eq 0 (.kn 6))) [.ret (.tup [(.xf 1 "number"),(.xf 1 "word")])] [],.iff (.val (.cmp .eq 0 (.kn 7))) [.ret (.tup [(.xf 1 "machine"),(.xf 1 "word")])] [],.ret (.ite (.val (.cmp .eq 0 (.kn 9))) (.tup [(.xf 1 "at")]) (.tup []))]
def f3:Fu:=runDefH (tab (c3 [])) 2 b3
abbrev c4 (l:List Fu):=c3 (f3::l)
noncomputable def n4:List Str:=["_law_way","_law_one","_law_word","_law_some"]
noncomputable def b4:List S:=[.asg [3] (.lst [(.tup [2,1]),(.tup [1]),(.tup [1,2]),(.tup [2,1]),(.tup [1,(.bin .add 1 (.kn 1))]),(.tup [1,(.bin .sub 1 (.kn 1)),2]),(.tup [1,2])]),.ret (.sub (.bin .add 3 (.lst [(.tup [1,2]),(.tup [1]),(.tup [1]),(.tup [])])) 0)]
def f4:Fu:=runDef (tab (c4 [])) 4 b4
abbrev c5 (l:List Fu):=c4 (f4::l)
noncomputable def n5:List Str:=["_law_way","_law_one","_law_word","_law_told_here","_law_e","_law_kinds"]
noncomputable def b5:List S:=[.asg [3] (.tup [(.tup []),(.lst [])]),.tryc (.exp 2 [0,1,2]) "CutError" [(44,["word","number"]),(63,["number"]),(82,["place","word"]),(101,["word","number"]),(120,["machine","choice"]),(139,["machine","choice","word"]),(158,["number","word"]),(177,["machine","word"]),(196,["number"]),(215,["at"]),(234,["text"])] 4 [.asg [5] (.lst [(.isx 4 (.one "NoForm") [(44,true),(63,false),(82,false),(101,false),(120,false),(139,false),(158,false),(177,false),(196,false),(215,false),(234,false)]),(.isx 4 (.one "NoDeed") [(44,false),(63,true),(82,false),(101,false),(120,false),(139,false),(158,false),(177,false),(196,false),(215,false),(234,false)]),(.isx 4 (.one "NoCut") [(44,false),(63,false),(82,true),(101,false),(120,false),(139,false),(158,false),(177,false),(196,false),(215,false),(234,false)]),(.isx 4 (.one "NoTaking") [(44,false),(63,false),(82,false),(101,true),(120,false),(139,false),(158,false),(177,false),(196,false),(215,false),(234,false)])]),.asg [5] (.bin .add 5 (.lst [(.isx 4 (.one "NoNumbers") [(44,false),(63,false),(82,false),(101,false),(120,true),(139,false),(158,false),(177,false),(196,false),(215,false),(234,false)]),(.isx 4 (.one "NoLine") [(44,false),(63,false),(82,false),(101,false),(120,false),(139,true),(158,false),(177,false),(196,false),(215,false),(234,false)]),(.isx 4 (.one "NoZigzag") [(44,false),(63,false),(82,false),(101,false),(120,false),(139,false),(158,true),(177,false),(196,false),(215,false),(234,false)])])),.asg [5] (.bin .add 5 (.lst [(.isx 4 (.one "NoWorld") [(44,false),(63,false),(82,false),(101,false),(120,false),(139,false),(158,false),(177,true),(196,false),(215,false),(234,false)]),(.isx 4 (.one "NoRun") [(44,false),(63,false),(82,false),(101,false),(120,false),(139,false),(158,false),(177,false),(196,true),(215,false),(234,false)]),(.isx 4 (.one "NoText") [(44,false),(63,false),(82,false),(101,false),(120,false),(139,false),(158,false),(177,false),(196,false),(215,true),(234,false)]),(.isx 4 (.one "NoRow") [(44,false),(63,false),(82,false),(101,false),(120,false),(139,false),(158,false),(177,false),(196,false),(215,false),(234,true)])])),.asg [3] (.tup [(.hcall 3 [0,4]),(.bin .add 5 (.lst [(.isx 4 .ve [(44,true),(63,true),(82,true),(101,true),(120,true),(139,true),(158,true),(177,true),(196,true),(215,true),(234,true)])]))])],.ret 3]
def f5:Fu:=runDef (tab (c5 [])) 6 b5
abbrev c6 (l:List Fu):=c5 (f5::l)
noncomputable def n6:List Str:=["_law_script","_law_k","_law_well_here","_law_one","_law_word","_law_way","_law_due_here"]
noncomputable def b6:List S:=[.forr [1] .rng1 [(.kn 3)] [.asg [2] (.call 0 [0,1]),.asg [3] (.bin .sub (.bin .mod (.sub 2 (.cst (.str "cell"))) (.bin .pow (.kn 10) (.kn 19))) (.bin .pow (.kn 10) (.kn 18))),.asg [4] (.sub (.lst [(.cst (.str "way")),(.cst (.str "")),(.cst (.str "shape")),(.cst (.str "a b"))]) (.call 1 [2,(.kn 4)])),.forr [5] .rng1 [(.kn 11)] [.asg [6] (.bin .add (.bin .mul (.lst [(.cst (.bl false))]) (.kn 11)) (.lst [(.cst (.bl true))])),.put 6 5 (.cst (.bl true)),.iff (.val (.cmp .ne (.bi .repr1 [(.call 5 [5,3,4])]) (.bi .repr1 [(.tup [(.call 4 [5,3,4]),6])]))) [.ret (.cst (.bl false))] []]],.ret (.cst (.bl true))]
def f6:Fu:=runDef (tab (c6 [])) 7 b6
def gs:List (Str×Int):=[]
noncomputable def fs:List (Str×Nat):=[(("_law_well" : Str),2),(("_law_draw" : Str),2),(("_law_raised" : Str),3),(("_law_fields" : Str),2),(("_law_due" : Str),3),(("_law_told" : Str),3),(("law" : Str),1)]
end Qk16
end
section
namespace Qk16
open L2 Ev
open PySem PySem.Spec PyProof.Rows
theorem okt_hdl {j:Nat} {o:OutS} {nx bk ct:En->Mem->Prop} {rt:W->Mem->Prop} (h:@OkT noEr o (fun ρ M=>nx (ρ.set j none) M) (fun _ _=>False) (fun _ _=>False) (fun _ _=>False)):OkT (o.hdl j) nx rt bk ct:=by
 cases o with
 | nx ρ M=>rw [@okt_nx noEr] at h;show OkT (.nx (ρ.set j none) M) _ _ _ _;rw [okt_nx];exact h
 | rt _ _=>rw [@okt_rt noEr] at h;exact h.elim
 | bk _ _=>rw [@okt_bk noEr] at h;exact h.elim
 | ct _ _=>rw [@okt_ct noEr] at h;exact h.elim
 | er _ _=>rw [@okt_er noEr] at h;exact h.elim
 | stuck=>rw [@okt_stuck noEr] at h;exact h.elim
theorem okt_try {G:Fns} {b:TB} {cb:Str} {mt:List (Addr×List Str)} {j:Nat} {h:List S} {ρ:En} {M M1 M2:Mem} {ds:List D} {x:Exn} {nx bk ct:En->Mem->Prop} {rt:W->Mem->Prop} (h1:evDs G b.args ρ M=.ok ds M1) (h2:G b.fn ds M1=.err x M2) (h3:mt.lookup x.cls=some (x.fs.map (·.1))) (h4:wSs G h (ρ.set j (some (.adr M2.length))) (M2++[.xc x.cls x.fs]) (fun ρ M=>nx (ρ.set j none) M) (fun _ _=>False) (fun _ _=>False) (fun _ _=>False)):OkT (evS G (.tryc b cb mt j h) ρ M) nx rt bk ct:=by
 rw [evS_tryc,h1]
 dsimp only
 rw [h2]
 dsimp only
 rw [zqav h3]
 exact okt_hdl (by rw [w_ss];exact h4)
theorem isx_ok {tb:List (Addr×Bool)} {M:Mem} {n:Nat} {C:Addr} {fs:List (Str×D)} {b:Bool} (h:M[n]?=some (.xc C fs)) (hl:tb.lookup C=some b):isxW tb (.d (.adr n)) M=.ok (.d (.bl b)) M:=by
 unfold isxW;simp only [h,hl]
theorem xf_ok {f:Str} {M:Mem} {n:Nat} {C:Addr} {fs:List (Str×D)} {d:D} (h:M[n]?=some (.xc C fs)) (hl:fs.lookup f=some d):xfW f (.d (.adr n)) M=.ok (.d d) M:=by
 unfold xfW;simp only [h,hl]
theorem w_runH {G:Fns} {n:Nat} {b:List S} {ds:List D} {M:Mem} {P:W->Mem->Prop}:@Okp noEr _ (runDefH G n b ds M) P=wSs G b (startE n ds) M (fun _ M=>P (.d .non) M) P (fun _ _=>False) (fun _ _=>False):=by
 rw [<- w_ss]
 unfold runDefH
 cases evSs G b (startE n ds) M with
 | nx ρ M=>rw [okt_nx];exact okp_ok
 | rt ρ M=>rw [okt_rt];exact okp_ok
 | bk ρ M=>rw [okt_bk];exact okp_stuck
 | ct ρ M=>rw [okt_ct];exact okp_stuck
 | er ρ M=>rw [okt_er];exact okp_stuck
 | stuck=>rw [okt_stuck];exact okp_stuck
noncomputable def clsN (k:Nat):Addr:=[44,63,82,101,120,139,158,177,196,215,234].getD k 0
noncomputable def xsN (k:Nat) (o:Int) (w:Str):List (Str×D):=match k with
 | 0=>[("word",.str w),("number",.int o)]
 | 1=>[("number",.int o)]
 | 2=>[("place",.int o),("word",.str w)]
 | 3=>[("word",.str w),("number",.int o)]
 | 4=>[("machine",.int o),("choice",.int (o+1))]
 | 5=>[("machine",.int o),("choice",.int (o - 1)),("word",.str w)]
 | 6=>[("number",.int o),("word",.str w)]
 | 7=>[("machine",.int o),("word",.str w)]
 | 8=>[("number",.int o)]
 | 9=>[("at",.int o)]
 | _=>[("text",.str w)]
noncomputable def dueL (k:Nat) (o:Int) (w:Str):List D:=match k with
 | 0=>[.str w,.int o]
 | 1=>[.int o]
 | 2=>[.int o,.str w]
 | 3=>[.str w,.int o]
 | 4=>[.int o,.int (o+1)]
 | 5=>[.int o,.int (o - 1),.str w]
 | 6=>[.int o,.str w]
 | 7=>[.int o,.str w]
 | 8=>[.int o]
 | 9=>[.int o]
 | _=>[]
noncomputable def kindL (k:Nat):List D:=((List.range 11).map fun i=>D.bl (i == k))++[.bl true]
theorem below11 {k:Nat} (h:k < 11):k=0\/k=1\/k=2\/k=3\/k=4\/k=5\/k=6\/k=7\/k=8\/k=9\/k=10:=∅
def RaisF (F:Fn):Prop:=∀ (M:Mem) (k:Nat) (o:Int) (w:Str),k < 11->F [.int k,.int o,.str w] M=.err ⟨clsN k,xsN k o w⟩ M
theorem raisF {G:Fns}:RaisF (runDef G 3 b2):=by
 intro M k o w hk
 have h:@Okp ⟨fun x M'=>x=⟨clsN k,xsN k o w⟩/\M'=M⟩ _ (runDef G 3 b2 [.int k,.int o,.str w] M) fun _ _=>False:=by
  letI:Er:=⟨fun x M'=>x=⟨clsN k,xsN k o w⟩/\M'=M⟩
  rw [w_run]
  show wSs G b2 [some (.int k),some (.int o),some (.str w)] M _ _ _ _
  rcases below11 hk with rfl | rfl | rfl | rfl | rfl | rfl | rfl | rfl | rfl | rfl | rfl
  all_goals (nofun;exact ⟨rfl,rfl⟩)
 cases e:runDef G 3 b2 [.int k,.int o,.str w] M with
 | ok _ _=>rw [e,@okp_ok ⟨_⟩] at h;exact h.elim
 | stuck=>rw [e,@okp_stuck ⟨_⟩] at h;exact h.elim
 | err x M1=>rw [e,@okp_err ⟨_⟩] at h;obtain ⟨rfl,rfl⟩:=h;rfl
def FieldF (F:Fn):Prop:=∀ (M:Mem) (n k:Nat) (o:Int) (w:Str),k < 11->M[n]?=some (.xc (clsN k) (xsN k o w))->@Okp noEr _ (F [.int k,.adr n] M) fun r M'=>r=.d (.tup (dueL k o w))/\M'=M
theorem in2 {M:Mem} {i a b:Int}:cmpW .isin (.d (.int i)) (.d (.tup [.int a,.int b])) M=.ok (decide (i∈[a,b])) M:=in_tup (ks:=[a,b])
theorem fieldF {G:Fns}:FieldF (runDefH G 2 b3):=by
 intro M n k o w hk hM
 rw [w_runH]
 show wSs G b3 [some (.int k),some (.adr n)] M _ _ _ _
 rcases below11 hk with rfl | rfl | rfl | rfl | rfl | rfl | rfl | rfl | rfl | rfl | rfl
 ·nofun;refine ⟨by decide,?_⟩;nofun;rw [in2];nofun;rw [xf_ok hM rfl];nofun;rw [xf_ok hM rfl];nofun;exact ⟨small_le (by simp),rfl,rfl⟩
 ·nofun;refine ⟨by decide,?_⟩;nofun;rw [in2];nofun;refine ⟨by decide,?_⟩;nofun;rw [in2];nofun;rw [xf_ok hM rfl];nofun;exact ⟨small_le (by simp),rfl,rfl⟩
 ·nofun;refine ⟨by decide,?_⟩;nofun;rw [in2];nofun;refine ⟨by decide,?_⟩;nofun;rw [in2];nofun;rw [xf_ok hM rfl];nofun;rw [xf_ok hM rfl];nofun;exact ⟨small_le (by simp),rfl,rfl⟩
 ·nofun;refine ⟨by decide,?_⟩;nofun;rw [in2];nofun;rw [xf_ok hM rfl];nofun;rw [xf_ok hM rfl];nofun;exact ⟨small_le (by simp),rfl,rfl⟩
 ·nofun;refine ⟨by decide,?_⟩;nofun;rw [in2];nofun;refine ⟨by decide,?_⟩;nofun;rw [in2];nofun;rw [xf_ok hM rfl];nofun;rw [xf_ok hM rfl];nofun;exact ⟨small_le (by simp),rfl,rfl⟩
 ·nofun;refine ⟨by decide,?_⟩;nofun;rw [in2];nofun;refine ⟨by decide,?_⟩;nofun;rw [in2];nofun;rw [xf_ok hM rfl];nofun;rw [xf_ok hM rfl];nofun;rw [xf_ok hM rfl];nofun;exact ⟨small_le (by simp),rfl,rfl⟩
 ·nofun;refine ⟨by decide,?_⟩;nofun;rw [in2];nofun;refine ⟨by decide,?_⟩;nofun;rw [in2];nofun;rw [xf_ok hM rfl];nofun;rw [xf_ok hM rfl];nofun;exact ⟨small_le (by simp),rfl,rfl⟩
 ·nofun;refine ⟨by decide,?_⟩;nofun;rw [in2];nofun;refine ⟨by decide,?_⟩;nofun;rw [in2];nofun;rw [xf_ok hM rfl];nofun;rw [xf_ok hM rfl];nofun;exact ⟨small_le (by simp),rfl,rfl⟩
 ·nofun;refine ⟨by decide,?_⟩;nofun;rw [in2];nofun;refine ⟨by decide,?_⟩;nofun;rw [in2];nofun;rw [xf_ok hM rfl];nofun;exact ⟨small_le (by simp),rfl,rfl⟩
 ·nofun;refine ⟨by decide,?_⟩;nofun;rw [in2];nofun;refine ⟨by decide,?_⟩;nofun;rw [in2];nofun;rw [xf_ok hM rfl];nofun;exact ⟨small_le (by simp),rfl,rfl⟩
 ·nofun;refine ⟨by decide,?_⟩;nofun;rw [in2];nofun;refine ⟨by decide,?_⟩;nofun;rw [in2];nofun;exact ⟨small_le (by simp),rfl,rfl⟩
end Qk16
end
section
namespace Qk16
open L2 Ev
open PySem PySem.Spec PyProof.Rows
theorem adr_lv {M:Mem} {n:Nat} {xs ys:List D} (h:M[n]?=some (.lst xs)) (hl:xs.length+ys.length<=sizeLine):binW .add (.d (.adr n)) (.lv ys) M=.ok (.lv (xs++ys)) M:=by
 unfold binW;simp only [lstW,h];rw [zqav hl]
def DueF (F:Fn):Prop:=∀ (M:Mem) (k:Nat) (o:Int) (w:Str),k < 11->Okp (F [.int k,.int o,.str w] M) fun r M'=>r=.d (.tup (dueL k o w))/\Ex M M'
theorem dueF {G:Fns}:DueF (runDef G 4 b4):=by
 intro M k o w hk
 rw [w_run]
 show wSs G b4 [some (.int k),some (.int o),some (.str w),none] M _ _ _ _
 have sz:∀ l:List D,l.length<=20->l.length<=sizeLine:=fun l h=>small_le (zqat h (by decide))
 repeat (nofun;refine ⟨sz _ (by simp),?_⟩)
 nofun
 rw [adr_lv app_last (small_le (by simp))]
 nofun
 have e:([.tup [.str w,.int o],.tup [.int o],.tup [.int o,.str w],.tup [.str w,.int o],.tup [.int o,.int (o+1)],.tup [.int o,.int (o - 1),.str w],.tup [.int o,.str w]]++[.tup [.int o,.str w],.tup [.int o],.tup [.int o],.tup []]:List D)[k]?=some (.tup (dueL k o w)):=by
  rcases below11 hk with rfl | rfl | rfl | rfl | rfl | rfl | rfl | rfl | rfl | rfl | rfl <;> rfl
 rw [sub_lv (Int.natCast_nonneg k) (by rw [Int.toNat_natCast];exact e)]
 exact ⟨rfl,Fr.app (Ex.refl M)⟩
def ToldF (F:Fn):Prop:=∀ (M:Mem) (k:Nat) (o:Int) (w:Str),k < 11->Okp (F [.int k,.int o,.str w] M) fun r M'=>∃ n,r=.d (.tup [.tup (dueL k o w),.adr n])/\M'[n]?=some (.lst (kindL k))/\Ex M M'
theorem toldF {G:Fns} (h2:RaisF (G 2)) (h3:FieldF (G 3)):ToldF (runDef G 6 b5):=by
 intro M k o w hk
 rw [w_run]
 show wSs G b5 [some (.int k),some (.int o),some (.str w),none,none,none] M _ _ _ _
 have sz:∀ l:List D,l.length<=20->l.length<=sizeLine:=fun l h=>small_le (zqat h (by decide))
 repeat (nofun;refine ⟨sz _ (by simp),?_⟩)
 nofun
 refine okt_try (ds:=[.int k,.int o,.str w]) (M1:=M++[.lst []]) rfl (h2 _ k o w hk) ?_ ?_
 ·rcases below11 hk with rfl | rfl | rfl | rfl | rfl | rfl | rfl | rfl | rfl | rfl | rfl <;> rfl
 have f0:Ex M (M++[.lst []]++[.xc (clsN k) (xsN k o w)]):=Fr.app (Fr.app (Ex.refl M))
 have hx:(M++[.lst []]++[.xc (clsN k) (xsN k o w)])[(M++[MO.lst []]).length]?=some (.xc (clsN k) (xsN k o w)):=app_last
 generalize (M++[MO.lst []]).length=n at hx ⊢
 generalize M++[.lst []]++[.xc (clsN k) (xsN k o w)]=M1 at f0 hx ⊢
 show wSs G _ [some (.int k),some (.int o),some (.str w),some (.tup [.tup [],.adr M.length]),some (.adr n),none] M1 _ _ _ _
 rcases below11 hk with rfl | rfl | rfl | rfl | rfl | rfl | rfl | rfl | rfl | rfl | rfl
 all_goals
  iterate 4 (nofun;rw [isx_ok hx rfl])
  nofun
  refine ⟨sz _ (by simp),?_⟩
  nofun
  iterate 3 (rw [isx_ok (app_get hx) rfl];nofun)
  refine ⟨sz _ (by simp),?_⟩
  nofun
  rw [adr_lv app_last (small_le (by simp))]
  nofun
  iterate 4 (rw [isx_ok (app_get (app_get hx)) rfl];nofun)
  refine ⟨sz _ (by simp),?_⟩
  nofun
  rw [adr_lv app_last (small_le (by simp))]
  nofun
  refine (h3 _ n _ o w (by decide) (app_get (app_get (app_get hx)))).imp ?_
  rintro r M' ⟨rfl,rfl⟩
  nofun
  rw [isx_ok (app_get (app_get (app_get hx))) rfl]
  nofun
  refine ⟨sz _ (by simp),?_⟩
  nofun
  rw [adr_lv app_last (small_le (by simp))]
  nofun
  refine ⟨sz _ (by simp),?_⟩
  nofun
  exact ⟨_,rfl,app_last,Fr.app (Fr.app (Fr.app (Fr.app f0)))⟩
theorem int_ok (i:Int):PyData.strOk (Str.ofString (toString i))=true:=by
 unfold PyData.strOk
 rw [Array.all_eq_true']
 intro c hc
 refine zqbo ?_
 refine Classical.byContradiction fun h=>?_
 exact int_text_free' c ⟨∅,∅⟩ i (by simpa using hc)
theorem sm_big {i:Int} (hn:i.natAbs < 10 ^ 20):Sm 24 0 (.int i):=by
 have hlog:i.natAbs.log2 < 1920:=by
  by_cases h0:i.natAbs=0
  ·rw [h0];decide
  ·have:i.natAbs < 2 ^ 1920:=zqao hn (by decide)
   exact (Nat.log2_lt h0).mpr this
 refine ⟨.int i,fun M n _=>by cases n <;> (unfold pyD;rfl),PyData.canLay0.eq_3 i,?_,zqc0 (PyData.depth.eq_6 i),?_⟩
 ·rw [PyData.showable.eq_4]
  exact zqbo hlog
 ·rw [PyData.shown.eq_3]
  refine ⟨?_,int_ok i⟩
  have:=int_text_length_le10 (a:=i) (k:=20) (by decide) hn
  rw [PySem.ofString_length]
  omega
theorem sm_bl (b:Bool):Sm 24 0 (.bl b):=by
 refine ⟨.bool b,fun M n _=>by cases n <;> (unfold pyD;rfl),?_⟩
 cases b <;> exact ⟨⋯,⋯,⋯,⋯,⋯⟩
noncomputable def WdsOk (w:Str):Prop:=w = "way" \/ w = "" \/ w = "shape" \/ w = "a b"
theorem sm_w {w:Str} (h:WdsOk w):Sm 24 0 (.str w):=by
 rcases h with rfl | rfl | rfl | rfl <;> exact Sm.str (⋯) ⟨⋯,⋯⟩
theorem sm_due {k:Nat} {o:Int} {w:Str} (hk:k < 11) (ho:o.natAbs+1 < 10 ^ 20) (hw:WdsOk w):Sm 1000 1 (.tup (dueL k o w)):=by
 have h0:=sm_big (i:=o) (∅)
 have h1:=sm_big (i:=o+1) (∅)
 have h2:=sm_big (i:=o - 1) (∅)
 have h3:=sm_w hw
 refine (Sm.tup (b:=24) (h:=0) (k:=3) (fun d hd=>?_) ?_).mono (by decide) (by decide)
 ·rcases below11 hk with rfl | rfl | rfl | rfl | rfl | rfl | rfl | rfl | rfl | rfl | rfl
  all_goals
   simp only [dueL,zqaq,List.mem_nil_iff,or_false] at hd <;> first | (rcases hd with rfl | rfl | rfl <;> assumption) | (rcases hd with rfl | rfl <;> assumption) | (subst hd;assumption) | exact hd.elim
 ·rcases below11 hk with rfl | rfl | rfl | rfl | rfl | rfl | rfl | rfl | rfl | rfl | rfl <;> simp [dueL]
theorem repr_pl {d:D} {ds:List D} (q:Sm 1000 1 d) (q2:∀ e∈ds,Sm 24 0 e) (hl:ds.length<=20):∃ x,PyData.strOk x=true/\∀ M n,M[n]?=some (.lst ds)->biW .repr1 [.d (.tup [d,.adr n])] M=.ok (.d (.str x)) M:=by
  obtain ⟨p,e,q⟩:=q
  obtain ⟨ps,es,a,l⟩:=Sm.ds q2
  have hL:=SmP.list (k:=20) a (∅)
  have hT : SmP 2007 2 (.tuple [p, .list ps]) := SmP.tup (b := 1000) (h := 1) (k := 2) (ps := [p, .list ps]) (fun x hx => by
      simp only [zqaq,List.mem_nil_iff,or_false] at hx
      rcases hx with rfl | rfl
      · exact q
      · exact ⟨hL.1,hL.2.1,hL.2.2.1,hL.2.2.2.mono (by decide)⟩) (zqae 2)
  obtain ⟨q1,q2,q3,q4,q5⟩:=hT
  refine ⟨(PyData.tuple [p,.list ps]).shown,q5,fun M n hM=>?_⟩
  have h1:pyD M 29 d=some p:=e M 29 (by decide)
  have h2:pyD M 29 (.adr n)=some (.list ps):=by
    unfold pyD
    simp only [hM]
    rw [es M 28 (by decide)]
    rfl
  have:pyW M (.d (.tup [d,.adr n]))=some (.tuple [p,.list ps]):=by
    show pyD M 30 (.tup [d,.adr n])=_
    unfold pyD
    rw [show pyDs M 29 [d,.adr n]=some [p,.list ps] by unfold pyDs;rw [h1];unfold pyDs;rw [h2];unfold pyDs;rfl]
    rfl
  unfold biW
  simp only [this]
  rw [zqav ⟨q2,∅,zqat q4 (by decide)⟩]
theorem kind_sm {k:Nat}:∀ e∈kindL k,Sm 24 0 e:=fun e he=>by
 unfold kindL at he
 rcases zqbx.mp he with h | h
 ·obtain ⟨i,_,rfl⟩:=List.mem_map.mp h
  exact sm_bl _
 ·rw [List.mem_singleton.mp h];exact sm_bl _
theorem kind_len {k:Nat}:(kindL k).length<=20:=by unfold kindL;simp
theorem ne_same {M:Mem} {x:Str} (h:PyData.strOk x=true):cmpW .ne (.d (.str x)) (.d (.str x)) M=.ok false M:=by
 rw [c_neS h h];simp
end Qk16
end
section
namespace Qk16
open L2 Ev
open PySem PySem.Spec PyProof.Rows
theorem law_ok {G:Fns} (hW:WellF (G 0)) (hD:DrawAt (G 1)) (hE:DueF (G 4)) (hT:ToldF (G 5)) (ns:List Int) (hns:ns.length<=63):Okp (runDef G 7 b6 [.ls (ns.map D.int)] []) fun r _=>r=.d (.bl true):=by
 rw [w_run]
 show wSs G b6 [some (.ls (ns.map D.int)),none,none,none,none,none,none] [] _ _ _ _
 nofun
 refine ⟨by decide,?_⟩
 nofun
 refine f_rng (n:=3) (fun i ρ M=>∃ o1 o2 o3 o4 o5 o6,ρ=[some (.ls (ns.map D.int)),o1,o2,o3,o4,o5,o6]) ⟨_,_,_,_,_,_,rfl⟩ ?_ ?_
 ·rintro i ρ M hi ⟨o1,o2,o3,o4,o5,o6,rfl⟩
  nofun
  refine (hW M ns (0+(i:Int)) (∅) (∅) hns).imp ?_
  rintro r M1 ⟨rfl,l1,w1,f1⟩
  obtain ⟨c,l,t,hc,hl,h0,h1⟩:=id w1
  nofun
  rw [get_cell hc]
  nofun
  refine ⟨by decide,?_⟩
  nofun
  have e19:(10:Int) ^ Int.toNat 19=10000000000000000000:=by decide
  have e18:(10:Int) ^ Int.toNat 18=1000000000000000000:=by decide
  have ho:(c % (10:Int) ^ Int.toNat 19 - (10:Int) ^ Int.toNat 18).natAbs+1 < 10 ^ 20:=by
   rw [e19,e18]
   have:=zqc3 c (show (10000000000000000000:Int)≠0 by decide)
   have:=zqck c (show (0:Int) < 10000000000000000000 by decide)
   omega
  generalize c % (10:Int) ^ Int.toNat 19 - (10:Int) ^ Int.toNat 18=o at ho ⊢
  refine ⟨small_le (by decide),?_⟩
  nofun
  refine (hD M1 M.length 0 4 w1 (by decide) (by decide) (by decide)).imp ?_
  rintro r M2 ⟨j,rfl,j0,j1,w2,f2⟩
  nofun
  have hj:∃ w,([.str "way",.str "",.str "shape",.str "a b"]:List D)[j.toNat]?=some (.str w)/\WdsOk w:=by
   have:j.toNat=0\/j.toNat=1\/j.toNat=2\/j.toNat=3:=∅
   rcases this with q | q | q | q <;> rw [q]
   ·exact ⟨_,rfl,.inl rfl⟩
   ·exact ⟨_,rfl,.inr (.inl rfl)⟩
   ·exact ⟨_,rfl,.inr (.inr (.inl rfl))⟩
   ·exact ⟨_,rfl,.inr (.inr (.inr rfl))⟩
  obtain ⟨w,hw,wo⟩:=hj
  rw [sub_lv j0 hw]
  nofun
  refine ⟨by decide,?_⟩
  nofun
  refine f_rng (n:=11) (fun i ρ M=>∃ o1 o2 o5 o6,ρ=[some (.ls (ns.map D.int)),o1,o2,some (.int o),some (.str w),o5,o6]) ⟨_,_,_,_,rfl⟩ ?_ ?_
  ·rintro k ρ M3 hk ⟨o1,o2,o5,o6,rfl⟩
   rw [show (0:Int)+(k:Int)=(k:Int) by omega]
   nofun
   refine ⟨small_le (by decide),?_⟩
   nofun
   refine ⟨small_le (by decide),?_⟩
   nofun
   refine ⟨small_le (by decide),?_⟩
   nofun
   rw [put_lst app_last (show k < ((List.replicate (Int.toNat 11) [D.bl false]).flatten++[D.bl true]).length from Nat.lt_trans hk (by decide))]
   have hM4:((M3++[MO.lst ((List.replicate (Int.toNat 11) [D.bl false]).flatten++[D.bl true])]).set M3.length (.lst (((List.replicate (Int.toNat 11) [D.bl false]).flatten++[D.bl true]).set k (D.bl true))))[M3.length]?=some (.lst (kindL k)):=by
    rw [set_same app_last]
    rcases below11 hk with rfl | rfl | rfl | rfl | rfl | rfl | rfl | rfl | rfl | rfl | rfl <;> rfl
   generalize (M3++[MO.lst ((List.replicate (Int.toNat 11) [D.bl false]).flatten++[D.bl true])]).set M3.length (.lst (((List.replicate (Int.toNat 11) [D.bl false]).flatten++[D.bl true]).set k (D.bl true)))=M4 at hM4 ⊢
   obtain ⟨x,xo,hx⟩:=repr_pl (sm_due hk ho wo) (kind_sm (k:=k)) kind_len
   nofun
   refine (hT M4 k o w hk).imp ?_
   rintro r M5 ⟨n,rfl,h5,f5⟩
   nofun
   rw [hx M5 n h5]
   nofun
   refine (hE M5 k o w hk).imp ?_
   rintro r M6 ⟨rfl,f6⟩
   nofun
   refine ⟨small_le (by simp),?_⟩
   nofun
   rw [hx M6 M3.length (Ex.get f6 (Ex.get f5 hM4))]
   nofun
   rw [ne_same xo]
   exact ⟨_,_,_,_,rfl⟩
  ·rintro ρ M3 ⟨o1,o2,o5,o6,rfl⟩
   exact ⟨_,_,_,_,_,_,rfl⟩
 ·rintro ρ M ⟨o1,o2,o3,o4,o5,o6,rfl⟩
  nofun
theorem law_true:∀ ns:List Int,ns.length<=63->∃ M,f6 [.ls (ns.map D.int)] []=.ok (.d (.bl true)) M:=by
 intro ns hns
 have h0:∀ l,WellF (tab (c1 l) 0):=fun l=>wellF
 have h1:∀ l,DrawAt (tab (c2 l) 1):=fun l=>drawAt
 have h2:∀ l,RaisF (tab (c3 l) 2):=fun l=>raisF
 have h3:∀ l,FieldF (tab (c4 l) 3):=fun l=>fieldF
 have h4:∀ l,DueF (tab (c5 l) 4):=fun l=>dueF
 have h5:∀ l,ToldF (tab (c6 l) 5):=fun l=>toldF (h2 _) (h3 _)
 obtain ⟨r,M,e,q⟩:=okp_eq (law_ok (G:=tab (c6 [])) (h0 _) (h1 _) (h4 _) (h5 _) ns hns)
 subst q
 exact ⟨M,e⟩
end Qk16
end
section
namespace Qk16
open L2 Ev PySem PySem.Spec PyProof.Rows
theorem nob {P:Params} {h:Heap} {mg:Str->Option Value} (X:(Kf P).In h) (G:h.Ns mainGlobals mg):∀ b∈bltNames,mg b=none:=by
 have z:bltNames.all (fun b=>match PySem.W.nsIn (Kf P) mainGlobals b with | some none=>true | _=>false)=true:=nofun
 intro b hb
 have q:=zqa5.mp z b hb
 split at q
 ·rename_i e;exact PySem.W.mg_none_of X G e
 ·cases q
noncomputable def xi:XI:=⟨[(("NoForm" : Str),44,["word","number"]),(("NoDeed" : Str),63,["number"]),(("NoCut" : Str),82,["place","word"]),(("NoTaking" : Str),101,["word","number"]),(("NoNumbers" : Str),120,["machine","choice"]),(("NoLine" : Str),139,["machine","choice","word"]),(("NoZigzag" : Str),158,["number","word"]),(("NoWorld" : Str),177,["machine","word"]),(("NoRun" : Str),196,["number"]),(("NoText" : Str),215,["at"]),(("NoRow" : Str),234,["text"])],[((.one "NoForm"),44,true),((.one "NoForm"),63,false),((.one "NoForm"),82,false),((.one "NoForm"),101,false),((.one "NoForm"),120,false),((.one "NoForm"),139,false),((.one "NoForm"),158,false),((.one "NoForm"),177,false),((.one "NoForm"),196,false),((.one "NoForm"),215,false),((.one "NoForm"),234,false),((.one "NoDeed"),44,false),((.one "NoDeed"),63,true),((.one "NoDeed"),82,false),((.one "NoDeed"),101,false),((.one "NoDeed"),120,false),((.one "NoDeed"),139,false),((.one "NoDeed"),158,false),((.one "NoDeed"),177,false),((.one "NoDeed"),196,false),((.one "NoDeed"),215,false),((.one "NoDeed"),234,false),((.one "NoCut"),44,false),((.one "NoCut"),63,false),((.one "NoCut"),82,true),((.one "NoCut"),101,false),((.one "NoCut"),120,false),((.one "NoCut"),139,false),((.one "NoCut"),158,false),((.one "NoCut"),177,false),((.one "NoCut"),196,false),((.one "NoCut"),215,false),((.one "NoCut"),234,false),((.one "NoTaking"),44,false),((.one "NoTaking"),63,false),((.one "NoTaking"),82,false),((.one "NoTaking"),101,true),((.one "NoTaking"),120,false),((.one "NoTaking"),139,false),((.one "NoTaking"),158,false),((.one "NoTaking"),177,false),((.one "NoTaking"),196,false),((.one "NoTaking"),215,false),((.one "NoTaking"),234,false),((.one "NoNumbers"),44,false),((.one "NoNumbers"),63,false),((.one "NoNumbers"),82,false),((.one "NoNumbers"),101,false),((.one "NoNumbers"),120,true),((.one "NoNumbers"),139,false),((.one "NoNumbers"),158,false),((.one "NoNumbers"),177,false),((.one "NoNumbers"),196,false),((.one "NoNumbers"),215,false),((.one "NoNumbers"),234,false),((.one "NoLine"),44,false),((.one "NoLine"),63,false),((.one "NoLine"),82,false),((.one "NoLine"),101,false),((.one "NoLine"),120,false),((.one "NoLine"),139,true),((.one "NoLine"),158,false),((.one "NoLine"),177,false),((.one "NoLine"),196,false),((.one "NoLine"),215,false),((.one "NoLine"),234,false),((.one "NoZigzag"),44,false),((.one "NoZigzag"),63,false),((.one "NoZigzag"),82,false),((.one "NoZigzag"),101,false),((.one "NoZigzag"),120,false),((.one "NoZigzag"),139,false),((.one "NoZigzag"),158,true),((.one "NoZigzag"),177,false),((.one "NoZigzag"),196,false),((.one "NoZigzag"),215,false),((.one "NoZigzag"),234,false),((.one "NoWorld"),44,false),((.one "NoWorld"),63,false),((.one "NoWorld"),82,false),((.one "NoWorld"),101,false),((.one "NoWorld"),120,false),((.one "NoWorld"),139,false),((.one "NoWorld"),158,false),((.one "NoWorld"),177,true),((.one "NoWorld"),196,false),((.one "NoWorld"),215,false),((.one "NoWorld"),234,false),((.one "NoRun"),44,false),((.one "NoRun"),63,false),((.one "NoRun"),82,false),((.one "NoRun"),101,false),((.one "NoRun"),120,false),((.one "NoRun"),139,false),((.one "NoRun"),158,false),((.one "NoRun"),177,false),((.one "NoRun"),196,true),((.one "NoRun"),215,false),((.one "NoRun"),234,false),((.one "NoText"),44,false),((.one "NoText"),63,false),((.one "NoText"),82,false),((.one "NoText"),101,false),((.one "NoText"),120,false),((.one "NoText"),139,false),((.one "NoText"),158,false),((.one "NoText"),177,false),((.one "NoText"),196,false),((.one "NoText"),215,true),((.one "NoText"),234,false),((.one "NoRow"),44,false),((.one "NoRow"),63,false),((.one "NoRow"),82,false),((.one "NoRow"),101,false),((.one "NoRow"),120,false),((.one "NoRow"),139,false),((.one "NoRow"),158,false),((.one "NoRow"),177,false),((.one "NoRow"),196,false),((.one "NoRow"),215,false),((.one "NoRow"),234,true),(.ve,44,true),(.ve,63,true),(.ve,82,true),(.ve,101,true),(.ve,120,true),(.ve,139,true),(.ve,158,true),(.ve,177,true),(.ve,196,true),(.ve,215,true),(.ve,234,true)],[(("CutError" : Str),44,["word","number"]),(("CutError" : Str),63,["number"]),(("CutError" : Str),82,["place","word"]),(("CutError" : Str),101,["word","number"]),(("CutError" : Str),120,["machine","choice"]),(("CutError" : Str),139,["machine","choice","word"]),(("CutError" : Str),158,["number","word"]),(("CutError" : Str),177,["machine","word"]),(("CutError" : Str),196,["number"]),(("CutError" : Str),215,["at"]),(("CutError" : Str),234,["text"])],[3]⟩
abbrev xi0:XI:={ xi with hs:=[] }
theorem xin44 {P:Params}:XIn (Kf P) 44 24 41 ["word","number"]:=XIn.of (show (Kf P).lookup 44=some (kl "NoForm" 44 43 [(.ref 24)] ((.ref 24)::VE) [] (.ref 28) 207 215) by kernel_rfl) (nofun) (nofun) (nofun) (show (Kf P).lookup 24=some (kl "CutError" 24 23 [(.type "ValueError")] VE [(.ref 44),(.ref 63),(.ref 82),(.ref 101),(.ref 120),(.ref 139),(.ref 158),(.ref 177),(.ref 196),(.ref 215),(.ref 234)] (.ref 15) 189 197) by kernel_rfl) (nofun) (nofun) (ve_of (nofun))
theorem ini44 {P:Program} {w:World} {mg:Str->Option Value} {base:Heap}:FnOk P w (Kf w.params) mg base CX0 1 41 (PySem.W.fnOf "__init__" "NoForm.__init__" (defArgs i44) (defBody i44) (defScope i44) .none .none .none m1 none (.ref 40) .none) ("self" :: ["word","number"]) (spI (Kf w.params) 44 24 41 ["word","number"]):=init_ok2 (fun_mk (show (Kf w.params).lookup 41=some (fo (PySem.W.fnOf "__init__" "NoForm.__init__" (defArgs i44) (defBody i44) (defScope i44) .none .none .none m1 none (.ref 40) .none)) by kernel_rfl) (nofun) (nofun)) (scB_ok (⋯)) rfl (⋯)
theorem xin63 {P:Params}:XIn (Kf P) 63 24 60 ["number"]:=XIn.of (show (Kf P).lookup 63=some (kl "NoDeed" 63 62 [(.ref 24)] ((.ref 24)::VE) [] (.ref 47) 234 242) by kernel_rfl) (nofun) (nofun) (nofun) (show (Kf P).lookup 24=some (kl "CutError" 24 23 [(.type "ValueError")] VE [(.ref 44),(.ref 63),(.ref 82),(.ref 101),(.ref 120),(.ref 139),(.ref 158),(.ref 177),(.ref 196),(.ref 215),(.ref 234)] (.ref 15) 189 197) by kernel_rfl) (nofun) (nofun) (ve_of (nofun))
theorem ini63 {P:Program} {w:World} {mg:Str->Option Value} {base:Heap}:FnOk P w (Kf w.params) mg base CX0 1 60 (PySem.W.fnOf "__init__" "NoDeed.__init__" (defArgs i63) (defBody i63) (defScope i63) .none .none .none m1 none (.ref 59) .none) ("self" :: ["number"]) (spI (Kf w.params) 63 24 60 ["number"]):=init_ok (fun_mk (show (Kf w.params).lookup 60=some (fo (PySem.W.fnOf "__init__" "NoDeed.__init__" (defArgs i63) (defBody i63) (defScope i63) .none .none .none m1 none (.ref 59) .none)) by kernel_rfl) (nofun) (nofun)) (scB_ok (⋯)) rfl (⋯)
theorem xin82 {P:Params}:XIn (Kf P) 82 24 79 ["place","word"]:=XIn.of (show (Kf P).lookup 82=some (kl "NoCut" 82 81 [(.ref 24)] ((.ref 24)::VE) [] (.ref 66) 259 267) by kernel_rfl) (nofun) (nofun) (nofun) (show (Kf P).lookup 24=some (kl "CutError" 24 23 [(.type "ValueError")] VE [(.ref 44),(.ref 63),(.ref 82),(.ref 101),(.ref 120),(.ref 139),(.ref 158),(.ref 177),(.ref 196),(.ref 215),(.ref 234)] (.ref 15) 189 197) by kernel_rfl) (nofun) (nofun) (ve_of (nofun))
theorem ini82 {P:Program} {w:World} {mg:Str->Option Value} {base:Heap}:FnOk P w (Kf w.params) mg base CX0 1 79 (PySem.W.fnOf "__init__" "NoCut.__init__" (defArgs i82) (defBody i82) (defScope i82) .none .none .none m1 none (.ref 78) .none) ("self" :: ["place","word"]) (spI (Kf w.params) 82 24 79 ["place","word"]):=init_ok2 (fun_mk (show (Kf w.params).lookup 79=some (fo (PySem.W.fnOf "__init__" "NoCut.__init__" (defArgs i82) (defBody i82) (defScope i82) .none .none .none m1 none (.ref 78) .none)) by kernel_rfl) (nofun) (nofun)) (scB_ok (⋯)) rfl (⋯)
theorem xin101 {P:Params}:XIn (Kf P) 101 24 98 ["word","number"]:=XIn.of (show (Kf P).lookup 101=some (kl "NoTaking" 101 100 [(.ref 24)] ((.ref 24)::VE) [] (.ref 85) 286 294) by kernel_rfl) (nofun) (nofun) (nofun) (show (Kf P).lookup 24=some (kl "CutError" 24 23 [(.type "ValueError")] VE [(.ref 44),(.ref 63),(.ref 82),(.ref 101),(.ref 120),(.ref 139),(.ref 158),(.ref 177),(.ref 196),(.ref 215),(.ref 234)] (.ref 15) 189 197) by kernel_rfl) (nofun) (nofun) (ve_of (nofun))
theorem ini101 {P:Program} {w:World} {mg:Str->Option Value} {base:Heap}:FnOk P w (Kf w.params) mg base CX0 1 98 (PySem.W.fnOf "__init__" "NoTaking.__init__" (defArgs i101) (defBody i101) (defScope i101) .none .none .none m1 none (.ref 97) .none) ("self" :: ["word","number"]) (spI (Kf w.params) 101 24 98 ["word","number"]):=init_ok2 (fun_mk (show (Kf w.params).lookup 98=some (fo (PySem.W.fnOf "__init__" "NoTaking.__init__" (defArgs i101) (defBody i101) (defScope i101) .none .none .none m1 none (.ref 97) .none)) by kernel_rfl) (nofun) (nofun)) (scB_ok (⋯)) rfl (⋯)
theorem xin120 {P:Params}:XIn (Kf P) 120 24 117 ["machine","choice"]:=XIn.of (show (Kf P).lookup 120=some (kl "NoNumbers" 120 119 [(.ref 24)] ((.ref 24)::VE) [] (.ref 104) 313 321) by kernel_rfl) (nofun) (nofun) (nofun) (show (Kf P).lookup 24=some (kl "CutError" 24 23 [(.type "ValueError")] VE [(.ref 44),(.ref 63),(.ref 82),(.ref 101),(.ref 120),(.ref 139),(.ref 158),(.ref 177),(.ref 196),(.ref 215),(.ref 234)] (.ref 15) 189 197) by kernel_rfl) (nofun) (nofun) (ve_of (nofun))
theorem ini120 {P:Program} {w:World} {mg:Str->Option Value} {base:Heap}:FnOk P w (Kf w.params) mg base CX0 1 117 (PySem.W.fnOf "__init__" "NoNumbers.__init__" (defArgs i120) (defBody i120) (defScope i120) .none .none .none m1 none (.ref 116) .none) ("self" :: ["machine","choice"]) (spI (Kf w.params) 120 24 117 ["machine","choice"]):=init_ok2 (fun_mk (show (Kf w.params).lookup 117=some (fo (PySem.W.fnOf "__init__" "NoNumbers.__init__" (defArgs i120) (defBody i120) (defScope i120) .none .none .none m1 none (.ref 116) .none)) by kernel_rfl) (nofun) (nofun)) (scB_ok (⋯)) rfl (⋯)
theorem xin139 {P:Params}:XIn (Kf P) 139 24 136 ["machine","choice","word"]:=XIn.of (show (Kf P).lookup 139=some (kl "NoLine" 139 138 [(.ref 24)] ((.ref 24)::VE) [] (.ref 123) 340 348) by kernel_rfl) (nofun) (nofun) (nofun) (show (Kf P).lookup 24=some (kl "CutError" 24 23 [(.type "ValueError")] VE [(.ref 44),(.ref 63),(.ref 82),(.ref 101),(.ref 120),(.ref 139),(.ref 158),(.ref 177),(.ref 196),(.ref 215),(.ref 234)] (.ref 15) 189 197) by kernel_rfl) (nofun) (nofun) (ve_of (nofun))
theorem ini139 {P:Program} {w:World} {mg:Str->Option Value} {base:Heap}:FnOk P w (Kf w.params) mg base CX0 1 136 (PySem.W.fnOf "__init__" "NoLine.__init__" (defArgs i139) (defBody i139) (defScope i139) .none .none .none m1 none (.ref 135) .none) ("self" :: ["machine","choice","word"]) (spI (Kf w.params) 139 24 136 ["machine","choice","word"]):=init_ok3 (fun_mk (show (Kf w.params).lookup 136=some (fo (PySem.W.fnOf "__init__" "NoLine.__init__" (defArgs i139) (defBody i139) (defScope i139) .none .none .none m1 none (.ref 135) .none)) by kernel_rfl) (nofun) (nofun)) (scB_ok (⋯)) rfl (⋯)
theorem xin158 {P:Params}:XIn (Kf P) 158 24 155 ["number","word"]:=XIn.of (show (Kf P).lookup 158=some (kl "NoZigzag" 158 157 [(.ref 24)] ((.ref 24)::VE) [] (.ref 142) 369 377) by kernel_rfl) (nofun) (nofun) (nofun) (show (Kf P).lookup 24=some (kl "CutError" 24 23 [(.type "ValueError")] VE [(.ref 44),(.ref 63),(.ref 82),(.ref 101),(.ref 120),(.ref 139),(.ref 158),(.ref 177),(.ref 196),(.ref 215),(.ref 234)] (.ref 15) 189 197) by kernel_rfl) (nofun) (nofun) (ve_of (nofun))
theorem ini158 {P:Program} {w:World} {mg:Str->Option Value} {base:Heap}:FnOk P w (Kf w.params) mg base CX0 1 155 (PySem.W.fnOf "__init__" "NoZigzag.__init__" (defArgs i158) (defBody i158) (defScope i158) .none .none .none m1 none (.ref 154) .none) ("self" :: ["number","word"]) (spI (Kf w.params) 158 24 155 ["number","word"]):=init_ok2 (fun_mk (show (Kf w.params).lookup 155=some (fo (PySem.W.fnOf "__init__" "NoZigzag.__init__" (defArgs i158) (defBody i158) (defScope i158) .none .none .none m1 none (.ref 154) .none)) by kernel_rfl) (nofun) (nofun)) (scB_ok (⋯)) rfl (⋯)
theorem xin177 {P:Params}:XIn (Kf P) 177 24 174 ["machine","word"]:=XIn.of (show (Kf P).lookup 177=some (kl "NoWorld" 177 176 [(.ref 24)] ((.ref 24)::VE) [] (.ref 161) 396 404) by kernel_rfl) (nofun) (nofun) (nofun) (show (Kf P).lookup 24=some (kl "CutError" 24 23 [(.type "ValueError")] VE [(.ref 44),(.ref 63),(.ref 82),(.ref 101),(.ref 120),(.ref 139),(.ref 158),(.ref 177),(.ref 196),(.ref 215),(.ref 234)] (.ref 15) 189 197) by kernel_rfl) (nofun) (nofun) (ve_of (nofun))
theorem ini177 {P:Program} {w:World} {mg:Str->Option Value} {base:Heap}:FnOk P w (Kf w.params) mg base CX0 1 174 (PySem.W.fnOf "__init__" "NoWorld.__init__" (defArgs i177) (defBody i177) (defScope i177) .none .none .none m1 none (.ref 173) .none) ("self" :: ["machine","word"]) (spI (Kf w.params) 177 24 174 ["machine","word"]):=init_ok2 (fun_mk (show (Kf w.params).lookup 174=some (fo (PySem.W.fnOf "__init__" "NoWorld.__init__" (defArgs i177) (defBody i177) (defScope i177) .none .none .none m1 none (.ref 173) .none)) by kernel_rfl) (nofun) (nofun)) (scB_ok (⋯)) rfl (⋯)
theorem xin196 {P:Params}:XIn (Kf P) 196 24 193 ["number"]:=XIn.of (show (Kf P).lookup 196=some (kl "NoRun" 196 195 [(.ref 24)] ((.ref 24)::VE) [] (.ref 180) 423 431) by kernel_rfl) (nofun) (nofun) (nofun) (show (Kf P).lookup 24=some (kl "CutError" 24 23 [(.type "ValueError")] VE [(.ref 44),(.ref 63),(.ref 82),(.ref 101),(.ref 120),(.ref 139),(.ref 158),(.ref 177),(.ref 196),(.ref 215),(.ref 234)] (.ref 15) 189 197) by kernel_rfl) (nofun) (nofun) (ve_of (nofun))
theorem ini196 {P:Program} {w:World} {mg:Str->Option Value} {base:Heap}:FnOk P w (Kf w.params) mg base CX0 1 193 (PySem.W.fnOf "__init__" "NoRun.__init__" (defArgs i196) (defBody i196) (defScope i196) .none .none .none m1 none (.ref 192) .none) ("self" :: ["number"]) (spI (Kf w.params) 196 24 193 ["number"]):=init_ok (fun_mk (show (Kf w.params).lookup 193=some (fo (PySem.W.fnOf "__init__" "NoRun.__init__" (defArgs i196) (defBody i196) (defScope i196) .none .none .none m1 none (.ref 192) .none)) by kernel_rfl) (nofun) (nofun)) (scB_ok (⋯)) rfl (⋯)
theorem xin215 {P:Params}:XIn (Kf P) 215 24 212 ["at"]:=XIn.of (show (Kf P).lookup 215=some (kl "NoText" 215 214 [(.ref 24)] ((.ref 24)::VE) [] (.ref 199) 448 456) by kernel_rfl) (nofun) (nofun) (nofun) (show (Kf P).lookup 24=some (kl "CutError" 24 23 [(.type "ValueError")] VE [(.ref 44),(.ref 63),(.ref 82),(.ref 101),(.ref 120),(.ref 139),(.ref 158),(.ref 177),(.ref 196),(.ref 215),(.ref 234)] (.ref 15) 189 197) by kernel_rfl) (nofun) (nofun) (ve_of (nofun))
theorem ini215 {P:Program} {w:World} {mg:Str->Option Value} {base:Heap}:FnOk P w (Kf w.params) mg base CX0 1 212 (PySem.W.fnOf "__init__" "NoText.__init__" (defArgs i215) (defBody i215) (defScope i215) .none .none .none m1 none (.ref 211) .none) ("self" :: ["at"]) (spI (Kf w.params) 215 24 212 ["at"]):=init_ok (fun_mk (show (Kf w.params).lookup 212=some (fo (PySem.W.fnOf "__init__" "NoText.__init__" (defArgs i215) (defBody i215) (defScope i215) .none .none .none m1 none (.ref 211) .none)) by kernel_rfl) (nofun) (nofun)) (scB_ok (⋯)) rfl (⋯)
theorem xin234 {P:Params}:XIn (Kf P) 234 24 231 ["text"]:=XIn.of (show (Kf P).lookup 234=some (kl "NoRow" 234 233 [(.ref 24)] ((.ref 24)::VE) [] (.ref 218) 473 481) by kernel_rfl) (nofun) (nofun) (nofun) (show (Kf P).lookup 24=some (kl "CutError" 24 23 [(.type "ValueError")] VE [(.ref 44),(.ref 63),(.ref 82),(.ref 101),(.ref 120),(.ref 139),(.ref 158),(.ref 177),(.ref 196),(.ref 215),(.ref 234)] (.ref 15) 189 197) by kernel_rfl) (nofun) (nofun) (ve_of (nofun))
theorem ini234 {P:Program} {w:World} {mg:Str->Option Value} {base:Heap}:FnOk P w (Kf w.params) mg base CX0 1 231 (PySem.W.fnOf "__init__" "NoRow.__init__" (defArgs i234) (defBody i234) (defScope i234) .none .none .none m1 none (.ref 230) .none) ("self" :: ["text"]) (spI (Kf w.params) 234 24 231 ["text"]):=init_ok (fun_mk (show (Kf w.params).lookup 231=some (fo (PySem.W.fnOf "__init__" "NoRow.__init__" (defArgs i234) (defBody i234) (defScope i234) .none .none .none m1 none (.ref 230) .none)) by kernel_rfl) (nofun) (nofun)) (scB_ok (⋯)) rfl (⋯)
theorem xs_ok {P:Program} {w:World} {h base:Heap} {mg:Str->Option Value} (X:(Kf w.params).In h) (G:h.Ns mainGlobals mg):XsW P w (Kf w.params) mg base xi:=by
 refine ⟨fun x a f e=>?_,kt_of X G (nofun),ct_of X G (nofun) fun cb C fs hm=>?_⟩
 ·unfold xi at e
  dsimp only at e
  rw [zqac] at e
  split at e
  ·rename_i q
   obtain rfl:=eq_of_beq q
   cases e
   exact ⟨_,_,_,_,_,xin44,(show (Kf w.params).lookup 41=some (fo (PySem.W.fnOf "__init__" "NoForm.__init__" (defArgs i44) (defBody i44) (defScope i44) .none .none .none m1 none (.ref 40) .none)) by kernel_rfl),rfl,ini44,.all (fun us hl=>match us,hl with | [_,_,_],_=>rfl),zqa3 X G (nofun)⟩
  rw [zqac] at e
  split at e
  ·rename_i q
   obtain rfl:=eq_of_beq q
   cases e
   exact ⟨_,_,_,_,_,xin63,(show (Kf w.params).lookup 60=some (fo (PySem.W.fnOf "__init__" "NoDeed.__init__" (defArgs i63) (defBody i63) (defScope i63) .none .none .none m1 none (.ref 59) .none)) by kernel_rfl),rfl,ini63,.all (fun us hl=>match us,hl with | [_,_],_=>rfl),zqa3 X G (nofun)⟩
  rw [zqac] at e
  split at e
  ·rename_i q
   obtain rfl:=eq_of_beq q
   cases e
   exact ⟨_,_,_,_,_,xin82,(show (Kf w.params).lookup 79=some (fo (PySem.W.fnOf "__init__" "NoCut.__init__" (defArgs i82) (defBody i82) (defScope i82) .none .none .none m1 none (.ref 78) .none)) by kernel_rfl),rfl,ini82,.all (fun us hl=>match us,hl with | [_,_,_],_=>rfl),zqa3 X G (nofun)⟩
  rw [zqac] at e
  split at e
  ·rename_i q
   obtain rfl:=eq_of_beq q
   cases e
   exact ⟨_,_,_,_,_,xin101,(show (Kf w.params).lookup 98=some (fo (PySem.W.fnOf "__init__" "NoTaking.__init__" (defArgs i101) (defBody i101) (defScope i101) .none .none .none m1 none (.ref 97) .none)) by kernel_rfl),rfl,ini101,.all (fun us hl=>match us,hl with | [_,_,_],_=>rfl),zqa3 X G (nofun)⟩
  rw [zqac] at e
  split at e
  ·rename_i q
   obtain rfl:=eq_of_beq q
   cases e
   exact ⟨_,_,_,_,_,xin120,(show (Kf w.params).lookup 117=some (fo (PySem.W.fnOf "__init__" "NoNumbers.__init__" (defArgs i120) (defBody i120) (defScope i120) .none .none .none m1 none (.ref 116) .none)) by kernel_rfl),rfl,ini120,.all (fun us hl=>match us,hl with | [_,_,_],_=>rfl),zqa3 X G (nofun)⟩
  rw [zqac] at e
  split at e
  ·rename_i q
   obtain rfl:=eq_of_beq q
   cases e
   exact ⟨_,_,_,_,_,xin139,(show (Kf w.params).lookup 136=some (fo (PySem.W.fnOf "__init__" "NoLine.__init__" (defArgs i139) (defBody i139) (defScope i139) .none .none .none m1 none (.ref 135) .none)) by kernel_rfl),rfl,ini139,.all (fun us hl=>match us,hl with | [_,_,_,_],_=>rfl),zqa3 X G (nofun)⟩
  rw [zqac] at e
  split at e
  ·rename_i q
   obtain rfl:=eq_of_beq q
   cases e
   exact ⟨_,_,_,_,_,xin158,(show (Kf w.params).lookup 155=some (fo (PySem.W.fnOf "__init__" "NoZigzag.__init__" (defArgs i158) (defBody i158) (defScope i158) .none .none .none m1 none (.ref 154) .none)) by kernel_rfl),rfl,ini158,.all (fun us hl=>match us,hl with | [_,_,_],_=>rfl),zqa3 X G (nofun)⟩
  rw [zqac] at e
  split at e
  ·rename_i q
   obtain rfl:=eq_of_beq q
   cases e
   exact ⟨_,_,_,_,_,xin177,(show (Kf w.params).lookup 174=some (fo (PySem.W.fnOf "__init__" "NoWorld.__init__" (defArgs i177) (defBody i177) (defScope i177) .none .none .none m1 none (.ref 173) .none)) by kernel_rfl),rfl,ini177,.all (fun us hl=>match us,hl with | [_,_,_],_=>rfl),zqa3 X G (nofun)⟩
  rw [zqac] at e
  split at e
  ·rename_i q
   obtain rfl:=eq_of_beq q
   cases e
   exact ⟨_,_,_,_,_,xin196,(show (Kf w.params).lookup 193=some (fo (PySem.W.fnOf "__init__" "NoRun.__init__" (defArgs i196) (defBody i196) (defScope i196) .none .none .none m1 none (.ref 192) .none)) by kernel_rfl),rfl,ini196,.all (fun us hl=>match us,hl with | [_,_],_=>rfl),zqa3 X G (nofun)⟩
  rw [zqac] at e
  split at e
  ·rename_i q
   obtain rfl:=eq_of_beq q
   cases e
   exact ⟨_,_,_,_,_,xin215,(show (Kf w.params).lookup 212=some (fo (PySem.W.fnOf "__init__" "NoText.__init__" (defArgs i215) (defBody i215) (defScope i215) .none .none .none m1 none (.ref 211) .none)) by kernel_rfl),rfl,ini215,.all (fun us hl=>match us,hl with | [_,_],_=>rfl),zqa3 X G (nofun)⟩
  rw [zqac] at e
  split at e
  ·rename_i q
   obtain rfl:=eq_of_beq q
   cases e
   exact ⟨_,_,_,_,_,xin234,(show (Kf w.params).lookup 231=some (fo (PySem.W.fnOf "__init__" "NoRow.__init__" (defArgs i234) (defBody i234) (defScope i234) .none .none .none m1 none (.ref 230) .none)) by kernel_rfl),rfl,ini234,.all (fun us hl=>match us,hl with | [_,_],_=>rfl),zqa3 X G (nofun)⟩
  cases e
 ·unfold xi at hm
  simp only [zqaq,zqcq,List.not_mem_nil,or_false] at hm
  rcases hm with ⟨rfl,rfl,rfl⟩|⟨rfl,rfl,rfl⟩|⟨rfl,rfl,rfl⟩|⟨rfl,rfl,rfl⟩|⟨rfl,rfl,rfl⟩|⟨rfl,rfl,rfl⟩|⟨rfl,rfl,rfl⟩|⟨rfl,rfl,rfl⟩|⟨rfl,rfl,rfl⟩|⟨rfl,rfl,rfl⟩|⟨rfl,rfl,rfl⟩
  ·exact ⟨_,_,xin44⟩
  ·exact ⟨_,_,xin63⟩
  ·exact ⟨_,_,xin82⟩
  ·exact ⟨_,_,xin101⟩
  ·exact ⟨_,_,xin120⟩
  ·exact ⟨_,_,xin139⟩
  ·exact ⟨_,_,xin158⟩
  ·exact ⟨_,_,xin177⟩
  ·exact ⟨_,_,xin196⟩
  ·exact ⟨_,_,xin215⟩
  ·exact ⟨_,_,xin234⟩
theorem xs_ok0 {P:Program} {w:World} {h base:Heap} {mg:Str->Option Value} (X:(Kf w.params).In h) (G:h.Ns mainGlobals mg):XsW P w (Kf w.params) mg base xi0:=⟨(xs_ok (P:=P) (base:=base) X G).cl,(xs_ok (P:=P) (base:=base) X G).kt,(xs_ok (P:=P) (base:=base) X G).ct⟩
abbrev AL (l:PySem.W.OpenLaw) (w:World) (mg:Str->Option Value) (base:Heap) (i:Nat):=All l.prog w (Kf w.params) mg base i (fs.take i)
theorem all_mk {l:PySem.W.OpenLaw} {w:World} {h:Heap} {mg:Str->Option Value} {fa:Addr} (X:(Kf w.params).In h) (G:h.Ns mainGlobals mg) (hfa:mg "law" = some (.ref fa)):∃ fd:FuncData,(∀ (s:Shared) (v:Value),BindsTo s fd ⟨[v],[]⟩ [("_law_script",v)])/\∀ base:Heap,(Kf w.params).In base->base.Ns mainGlobals mg->FnOk l.prog w (Kf w.params) mg base (CXe l.prog w) 7 fa fd ["_law_script"] (spD (Kf w.params) 1 f6):=by
 have W:Cw (Kf w.params) h mg gs:=⟨X,G,nob X G,gob_of X G (nofun)⟩
 cases hfa.symm.trans (zqa3 X G (show PySem.W.nsIn (Kf w.params) mainGlobals "law" = some (some (.ref 285)) by kernel_rfl))
 refine ⟨fq "law" tp6 m0 (.ref 284),fun s v=>.of_eq rfl,fun base _ _=>?_⟩
 have A0:AL l w mg base 0 []:=All.nil
 have A1:AL l w mg base 1 (c1 []):=nx "_law_well" 243 tp0 n0 ["_law_script","_law_k"] b0 m0 (.ref 242) W A0
 have A2:AL l w mg base 2 (c2 []):=nx "_law_draw" 250 tp1 n1 ["_law_well_here","_law_many"] b1 m0 (.ref 249) W A1
 have A3:AL l w mg base 3 (c3 []):=nxr "_law_raised" 257 tp2 n2 ["_law_way","_law_one","_law_word"] b2 m0 (.ref 256) W A2 (xs_ok0 X G) (by decide) (fun _ _ _ _ z=>nomatch z)
 have H3:HIs l.prog w (Kf w.params) mg base 4 "_law_fields" 2 f3:=nxh "_law_fields" 264 tp3 n3 ["_law_way","_law_e"] b3 m0 (.ref 263) W A3 (xs_ok0 X G) (fun _ _ _ _ z=>nomatch z)
 have A4:AL l w mg base 4 (c4 []):=A3.snoc H3.is
 have A5:AL l w mg base 5 (c5 []):=nx "_law_due" 271 tp4 n4 ["_law_way","_law_one","_law_word"] b4 m0 (.ref 270) W A4
 have A6:AL l w mg base 6 (c6 []):=nxr "_law_told" 278 tp5 n5 ["_law_way","_law_one","_law_word"] b5 m0 (.ref 277) W A5 (xs_ok X G) (by decide) (fun i x n e z=>by
  obtain rfl:i=3:=by simpa [xi] using z
  cases e
  exact H3.mono (by decide))
 exact law_of "law" 285 tp6 n6 ["_law_script"] b6 m0 (.ref 284) W A6 (nofun) (nofun) (nofun) (⋯)
theorem scr_ls {K:PySem.W.Frag} {H:Hp} {a:Addr} {xs:List V} (hO:Only H) (h:SqL K H a xs):ScrL K H a xs:=by
 rcases h with (h | ⟨o,h⟩) | h
 ·rcases hO a with q | ⟨o,ys,q⟩
  ·rw [q] at h;cases h
  ·rw [q] at h;cases h
 ·exact .inl ⟨o,h⟩
 ·exact .inr h
theorem ints_rds {K:PySem.W.Frag} {H:Hp} {ads:List Addr}:∀ (ns:List Int),RDs K ads H (ns.map D.int) (ns.map V.int)
 | []=>by unfold RDs;rfl
 | i::ns=>by
  show RDs K ads H (D.int i::ns.map D.int) (V.int i::ns.map V.int)
  unfold RDs
  exact ⟨_,_,rfl,by unfold RD;rfl,ints_rds ns⟩
theorem walk {l : PySem.W.OpenLaw} {q : Program} {loose : List Str} {XP : (Str -> Option Value) -> Heap -> Prop} {YP : World -> Heap -> Prop} {d : DefRec} {K : Params -> PySem.W.Frag} (hlaw : ∀ ns : List Int, ns.length <= 63 -> ∃ M, f6 [.ls (ns.map D.int)] [] = .ok (.d (.bl true)) M) (hn : l.most = some 63) (hdf : d.params.defaults = [])
    (hY:∀ (w:World) (h:Heap),YP w h->(K w.params).In h)
    (F:∀ (w:World) (mg:Str->Option Value) (fa:Addr) (h:Heap),(K w.params).In h->h.Ns mainGlobals mg->mg d.name=some (.ref fa) ->
      ∃ fd:FuncData,(∀ (s:Shared) (u:Value),BindsTo s fd ⟨[u],[]⟩ [("_law_script",u)])/\∀ base:Heap,(K w.params).In base->base.Ns mainGlobals mg->FnOk l.prog w (K w.params) mg base (CXe l.prog w) 7 fa fd ["_law_script"] (spD (K w.params) 1 f6)) :
    PySem.W.WalkO q loose XP YP l.row.toRowW d [] (fun f vs=>PySem.call f vs) :=
  L2.walk_of (n:=63) (k:=7) (x := "_law_script") (CX:=fun w=>CXe l.prog w) (sp:=fun w=>spD (K w.params) 1 f6) hn (by decide) hdf ⟨rfl,by decide,by decide,rfl⟩ hY F (fun w H a ns hl hO hS=>by
    obtain ⟨M,hM⟩:=hlaw ns hl
    refine ⟨[],[],[.ls (ns.map D.int)],⟨fun i j a e _=>by simp at e,rfl,fun n o a e _=>by simp at e⟩,.one ?_,rfl,?_⟩
    · unfold RD
      exact ⟨a,_,rfl,scr_ls hO hS,ints_rds ns⟩
    · rw [hM]
      intro v H' ads' _ _ r
      have r:RD (K w.params) ads' H' (.bl true) v:=r
      unfold RD at r
      exact r) fun _ _ _ _ _ ⟨_,_,_,_,_,_,_,_,_,_,_,_,_,z⟩=>z
theorem said:PySem.W.OpenLaw.wellSaid PySem.Challenge.rw_cutstand_k16_refusals_apart=true:=nofun
end Qk16
end
end
open PySem PySem.W PyProof.Rows
set_option maxRecDepth 100000 in
set_option maxHeartbeats 0 in
theorem PySem.Challenge.cw_cutstand_k16_refusals_apart_holds : PySem.Challenge.rw_cutstand_k16_refusals_apart.Holds := by
 refine holds_law Qk16.said fun said=>?_
 refine holds_open (q:=Qk16.vw) (loose:=[]) (Xt:=fun s=>xlAt Qk16.vw [] s && recOk [] s) (XP:=XL Qk16.vw []) (Yf:=Hook.obs Qk16.hk) (Ya:=Hook.val Qk16.hk) (YP:=Hook.says Qk16.hk) (N:=6410) Qk16.lft (Hook.of Qk16.hk) (Hook.keeps Qk16.hk) (fun s e=>xl_of s (Bool.and_eq_true_iff.mp e).1) XL.keeps (by rfl) (by rfl) (by rfl) (fun s e=>recFacts_of (Bool.and_eq_true_iff.mp e).2) (by rfl) said (⋯) ⟨rfl,rfl,rfl,rfl,rfl,⋯⟩ ?hw ?hc
 case hw=>w_witness2
 case hc=>exact Qk16.walk (l:=PySem.Challenge.rw_cutstand_k16_refusals_apart) (K:=Qk16.Kf) Qk16.law_true rfl rfl (fun w h Y=>kIn_of Y) fun w mg fa h KX G hmg=>Qk16.all_mk KX G hmg
#print axioms PySem.Challenge.cw_cutstand_k16_refusals_apart_holds
