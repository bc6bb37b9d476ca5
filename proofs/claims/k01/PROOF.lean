import PyProof.Rows.All
import KE.KDictOf
import KE.KIsAll
import KE.KEqDict
import KE.KFind
import KE.KxWritten
import Open.Tree
import PyProof.DictIter
import PyProof.DictWalks
import PyProof.DictTruth
import PyProof.MeetsSeq
import PySem.Challenge.RW_cutstand_k01_what_is_a_form
set_option Elab.async false
set_option linter.all false
set_option maxRecDepth 100000
set_option genSizeOf false
set_option genInjectivity false
set_option compiler.extract_closed false
set_option maxHeartbeats 4000000
local macro_rules
  | `(⋯) => `(by decide +kernel)
  | `(nofun) => `(by kernel_rfl)
  | `(∅) => `(by omega)
  | `(tactic| omega) => `(tactic| first | with_reducible assumption | decide +kernel | lia | omega (config := {}))
abbrev au:=@Bool.false_ne_true
abbrev av:=@Bool.and_eq_true
abbrev ar:=@Nat.le_refl
abbrev aq:=@PySem.wpAny_bind
abbrev aW:=@Nat.le_of_ble_eq_true
abbrev cA:=@PySem.Heap.get?_push_of_some
abbrev bx:=@decide_eq_false
abbrev bY:=@List.length_append
abbrev bB:=@decide_eq_true
abbrev aZ:=@PySem.wpAny_pure
abbrev d4:=@List.getElem?_eq_some_iff
abbrev cu:=@Option.some.inj
abbrev cF:=@List.size_toArray
abbrev bE:=@PySem.Heap.lt_size
abbrev eK:=@List.getElem?_eq_getElem
abbrev bJ:=@Nat.le_trans
abbrev dB:=@List.mem_cons_of_mem
abbrev dC:=@List.mem_of_getElem?
abbrev cq:=@List.mem_cons
abbrev cM:=@List.length_map
abbrev dD:=@List.mem_cons_self
abbrev dm:=@List.lookup_cons
abbrev aU:=@if_pos
abbrev gL:=@List.getElem?_append_left
abbrev aX:=@if_neg
abbrev fP:=@List.mem_append_right
abbrev fm:=@PySem.Heap.get?_push_size
abbrev ft:=@Nat.lt_of_lt_of_le
abbrev fD:=@List.length_take
abbrev fE:=@List.length_cons
abbrev gf:=@PySem.wpAny_loadPart_at
abbrev gh:=@Bool.not_eq_true'
abbrev jX:=@PySem.Heap.get?_update_other
abbrev iR:=@beq_eq_false_iff_ne
abbrev eW:=@Nat.ne_of_lt
abbrev gM:=@List.all_eq_true
abbrev m9:=@List.getElem?_append_right
abbrev gO:=@List.mem_append
abbrev eB:=@beq_iff_eq
abbrev jY:=@PySem.mem_of_lookup
abbrev ji:=@List.getElem?_map
abbrev jZ:=@PySem.F.store_ValueError
abbrev iB:=@Bool.and_false
abbrev lL:=@List.getElem?_set_ne
abbrev iC:=@List.map_cons
abbrev dq:=@Ne.symm
abbrev gE:=@PySem.wpAny_field
abbrev dE:=@if_true
abbrev j2:=@List.nodup_cons
abbrev j3:=@List.find?_cons
abbrev kZ:=@List.length_drop
abbrev k_:=@List.mem_nil_iff
abbrev xu:=@PyProof.Rows.slot_tuple_getitem
abbrev tU:=@List.getD_eq_getElem?_getD
abbrev oS:=@List.mem_append_left
abbrev la:=@PySem.W.kia_one
abbrev iS:=@List.mem_map
abbrev tV:=@List.isEmpty_eq_false_iff
abbrev qV:=@PySem.F.attrBase_ValueError
abbrev lM:=@Bool.false_and
abbrev tW:=@List.getElem?_set_self
abbrev jk:=@Nat.zero_le
abbrev oU:=@PySem.wpAny_truthy_bool
abbrev oV:=@Int.toNat_natCast
abbrev oW:=@decide_eq_true_eq
abbrev tX:=@PySem.Heap.get?_update_self
abbrev xv:=@Option.isSome_iff_exists
abbrev lN:=@Nat.lt_irrefl
abbrev m_:=@PySem.Heap.size_push
abbrev xx:=@PySem.wpAny_callSpecial?_slot
abbrev qW:=@Option.some.injEq
abbrev qX:=@PySem.wpAny_newObj_type
abbrev oX:=@PySem.wpAny_execs_nil
abbrev j4:=@PySem.wpAny_mono
abbrev nh:=@PySem.wpAny_holding
abbrev zi:=@Array.getElem?_eq_some_iff
abbrev qY:=@List.isEmpty_iff
abbrev qZ:=@List.append_nil
abbrev q_:=@List.length_nil
abbrev rf:=@List.length_set
abbrev xy:=@List.mem_of_mem_take
abbrev xB:=@List.filterMap_cons
abbrev xC:=@List.replicate_succ
abbrev tY:=@List.getElem_mem
abbrev oY:=@Nat.le_of_lt
abbrev xD:=@Bool.false_eq_true
abbrev xE:=@List.mem_singleton
abbrev CS:=@PySem.F.slot_tuple_iterator_next
abbrev rg:=@PySem.W.mg_of
abbrev j5:=@or_false
abbrev xF:=@List.append_assoc
abbrev zj:=@PySem.F.excBase_ValueError
abbrev zk:=@PySem.codeAny_call_builtin
abbrev zl:=@List.mem_of_mem_drop
abbrev tZ:=@List.mem_range
abbrev xG:=@PySem.wpAny_call_entry
abbrev xH:=@Nat.lt_succ_self
abbrev xI:=@PySem.F.plain_min_loop
abbrev xJ:=@beq_self_eq_true
abbrev xM:=@List.take_length
abbrev lb:=@and_self
abbrev xN:=@List.drop_length
abbrev t5:=@List.all_cons
abbrev zm:=@PySem.wpAny_Call_Name_kw
abbrev zo:=@PySem.wpAny_setField_rec
abbrev CT:=@Option.map_eq_some_iff
abbrev zp:=@List.flatten_cons
abbrev zq:=@Nat.le_of_succ_le
abbrev zr:=@of_decide_eq_true
abbrev zt:=@List.length_range
abbrev CU:=@List.length_replicate
abbrev xO:=@List.nodup_nil
abbrev CV:=@PySem.F.slot_enumerate_next
abbrev CW:=@List.getElem?_eq_none
abbrev Hb:=@PyProof.Rows.callWith_type1
abbrev zu:=@PySem.wpAny_execs_cons
abbrev ni:=@if_false
abbrev CY:=@List.mem_iff_getElem
abbrev CZ:=@List.getElem?_mapIdx
abbrev xP:=@PySem.wpAny_standAt
abbrev xQ:=@List.any_cons
abbrev xR:=@Bool.or_false
abbrev xS:=@Bool.and_true
abbrev zv:=@PySem.wpAny_passesOwn
abbrev Hc:=@List.getElem?_eq_none_iff
abbrev zw:=@PySem.PyData.eqv.eq_5
abbrev oZ:=@congrArg
abbrev C0:=@PySem.wpAny_pyIter_tuple
abbrev xT:=@PySem.codeAny_mono
abbrev xU:=@List.map_nil
abbrev C1:=@PySem.tupleKind_room_in1
abbrev Hd:=@PySem.F.args_tuple_add_2
abbrev xV:=@Nat.le_of_eq
abbrev C2:=@PySem.Obj.data_mapFields
abbrev C3:=@Nat.eq_zero_or_pos
abbrev C4:=@Int.emod_lt_of_pos
abbrev t6:=@PySem.call_meets
abbrev zx:=@PySem.wpAny_seqItems
abbrev zy:=@PySem.wpAny_setField
abbrev zz:=@PySem.wpAny_tryCatch
abbrev He:=@PySem.F.entry_tuple_add
abbrev C5:=@List.any_eq_false
abbrev C6:=@Nat.lt_succ_of_lt
abbrev C7:=@PySem.F.plainAttrs_list
abbrev C8:=@List.nodup_append
abbrev xW:=@PySem.sizeLine_eq
abbrev Hf:=@PySem.F.slot_tuple_add
abbrev xX:=@Nat.le_succ
abbrev Hg:=@PySem.Heap.size_after_update
abbrev zA:=@Bool.true_and
abbrev zB:=@Prod.mk.injEq
abbrev C9:=@PySem.F.slot_tuple_mul
abbrev Hh:=@PySem.Obj.isFreed_of_fields
abbrev Hi:=@PySem.F.typeOf_object_class
abbrev o_:=@Iff.rfl
abbrev C_:=@Option.map_some
abbrev Hj:=@PySem.Heap.get?_none_of_le
abbrev zC:=@Nat.ne_of_gt
abbrev Dc:=@List.foldl_cons
abbrev Dd:=@List.nil_append
abbrev De:=@PySem.F.slot_int_rmul
abbrev Df:=@PySem.codeAny_builtin
abbrev Hk:=@PySem.Around.under_plainId
abbrev xY:=@Nat.not_lt
abbrev Hl:=@Bool.or_eq_false_iff
abbrev Dg:=@Bool.or_eq_true
abbrev Dh:=@Int.emod_nonneg
abbrev Di:=@List.map_append
abbrev Hm:=@Nat.mul_le_mul_right
abbrev Hn:=@Array.length_toList
abbrev Ho:=@List.mem_map_of_mem
abbrev Hq:=@List.length_flatten
abbrev Hr:=@List.mem_filterMap
abbrev Hs:=@PySem.W.callWith_K
abbrev Ht:=@PySem.W.ns_none_of
abbrev Hu:=@Array.all_eq_true'
abbrev Hv:=@Option.isSome_map
noncomputable section
section
namespace L2
open PySem PySem.Spec PyProof.Rows
noncomputable def fu(s:Stmt):Arguments:=match s with
 | .FunctionDef _ a _ _ _ _ _ _ _ _=>a
 | _=>{posonlyargs:=[],args:=[],vararg:=none,kwonlyargs:=[],kw_defaults:=[],kwarg:=none,defaults:=[]}
noncomputable def bZ(s:Stmt):List Stmt:=match s with
 | .FunctionDef _ _ b _ _ _ _ _ _ _=>b
 | _=>[]
noncomputable def aG(s:Stmt):Scope:=match s with
 | .FunctionDef _ _ _ _ _ _ sc _ _ _=>sc
 | _=>{kind:=.function,names:=[],isGenerator:=false,isCoroutine:=false}
abbrev VE:List Value:=[.type "ValueError",.type "Exception",.type "BaseException",.type "object"]
end L2
namespace Ev
open L2
open PySem PySem.Spec PyProof.Rows
abbrev fq(x:Str)(s:Stmt)(m c:Value):FuncData:=PySem.W.fnOf x x (fu s) (bZ s) (aG s) .none .none .none m none c .none
noncomputable def fo(f:FuncData):Obj:=⟨.type "function",none,.func f,#[]⟩
end Ev
namespace br
open L2 Ev PySem PySem.Spec PyProof.Rows
noncomputable def bS(i:Nat):Stmt:=PySem.Challenge.pw_cutstand_k01_what_is_a_form.main.body.getD i (.Pass ⟨0,0,0,0⟩)
abbrev UC:=bS 16
abbrev UD:=bS 17
abbrev UE:=bS 18
abbrev UG:=bS 19
abbrev UH:=bS 20
abbrev UI:=bS 21
abbrev UJ:=bS 22
abbrev UK:=bS 29
abbrev UL:=bS 34
abbrev UM:=bS 33
abbrev LO:=bS 32
abbrev LP:=bS 30
abbrev LQ:=bS 31
abbrev LR:=bS 35
abbrev LS:=bS 28
abbrev LU:=bS 37
abbrev LV:=bS 38
abbrev LW:=bS 39
abbrev LX:=bS 40
abbrev LY:=bS 41
abbrev LZ:=bS 42
abbrev L0:=bS 43
abbrev L1:=bS 44
abbrev L3:=bS 45
abbrev L4:=bS 46
abbrev L5:=bS 47
abbrev L6:=bS 48
abbrev L7:=bS 49
abbrev L8:=bS 50
abbrev L9:=bS 51
abbrev L_:=bS 52
abbrev Ma:=bS 53
abbrev Mb:=bS 54
abbrev Mc:=bS 55
abbrev Hw:=bS 56
noncomputable def V1:Stmt->Stmt
 | .ClassDef _ _ _ b _ _ _ _ _ _ _=>b.getD 0 (.Pass ⟨0,0,0,0⟩)
 | s=>s
abbrev y6:=V1 (bS 2)
abbrev m0:Value:=(.str "cutstand.kinds" 498)
abbrev m1:Value:=(.str "cutstand.forms" 555)
abbrev m2:Value:=(.str "law_cutstand_k01_what_is_a_form" 633)
abbrev kl(nm:Str)(C N:Addr)(bs bm sub:List Value)(k0:Value)(t2 t3:Nat):Obj:=excClassObj nm nm C N bs bm true [] sub false none none (some k0) none (some (.str nm t2)) (some (.str nm t3)) (some (.bool true)) "ValueError.__new__"
abbrev m3:Value:=(.str "cutstand.errors" 187)
noncomputable def en(P:Params)(k:Str)(t:Nat)(v:Value):DictEntry:=⟨PyData.keyHash P k,.str k t,v⟩
noncomputable def co(a:Array Value):Obj:=⟨.type "code",none,.fields a,#[]⟩
def cp(n:Nat):Value:=.str "/claim/cut.py" n
def iv(n:Nat):Value:=.int n 0
def cf(a:Nat)(n:Str)(k l m y:Nat)(t:Stmt)(g:Value)(r:PySem.W.Frag):PySem.W.Frag:=(a,co #[.str n k,.str n (k+1),cp (k+2),iv l,iv m,iv 0,iv 0,iv 3,.ref (a-5),.bool true,iv 181,.ref (a-4),.none,.ref (a-3),.ref (a-2),.ref (a-1),iv y,iv l,cp (y+1)])::(a+1,fo (fq n t g (.ref a)))::r
def Kf(P:Params):PySem.W.Frag:=List.cons (3,⟨(.type "dict"),none,.dict #[en P "__name__" 165 (.str "law_cutstand_k01_what_is_a_form" 633),en P "__doc__" 166 .none,en P "__package__" 167 .none,en P "__loader__" 168 (.builtin "__main__.__loader__#opaque"),en P "__spec__" 169 .none,en P "__annotations__" 170 (.ref 6),en P "__builtins__" 171 (.ref 4),en P "__file__" 173 (cp 172),en P "__cached__" 174 .none,en P "CutError" 206 (.ref 24),en P "NoForm" 233 (.ref 44),en P "NoDeed" 258 (.ref 63),en P "NoCut" 285 (.ref 82),en P "NoTaking" 312 (.ref 101),en P "NoNumbers" 339 (.ref 120),en P "NoLine" 368 (.ref 139),en P "NoZigzag" 395 (.ref 158),en P "NoWorld" 422 (.ref 177),en P "NoRun" 447 (.ref 196),en P "NoText" 472 (.ref 215),en P "NoRow" 497 (.ref 234),en P "STATES" 501 (.int 100 500),en P "LONGEST_WORD" 503 (.int 8 502),en P "is_whole" 510 (.ref 243),en P "is_below" 518 (.ref 250),en P "is_state" 525 (.ref 257),en P "is_sign" 532 (.ref 264),en P "is_word" 538 (.ref 269),en P "is_tuple_of" 546 (.ref 276),en P "is_tuple_to" 554 (.ref 283),en P "MOST_RULES" 558 (.int 4 557),en P "MOST_ROADS" 560 (.int 8 559),en P "MOST_MOVES" 562 (.int 30 561),en P "MOST_SENDS" 564 (.int 3 563),en P "right_form" 578 (.ref 290),en P "is_form_shaped" 585 (.ref 297),en P "is_road" 593 (.ref 304),en P "is_rule_shaped" 600 (.ref 311),en P "ask_moves" 612 (.ref 318),en P "is_move" 618 (.ref 323),en P "is_send" 626 (.ref 330),en P "sends_of" 632 (.ref 335),en P "_law_well" 643 (.ref 342),en P "_law_draw" 655 (.ref 349),en P "_law_roads" 668 (.ref 356),en P "_law_states" 679 (.ref 363),en P "_law_sends" 690 (.ref 370),en P "_law_moves" 707 (.ref 377),en P "_law_form" 713 (.ref 382),en P "_law_whole" 722 (.ref 389),en P "_law_word" 728 (.ref 394),en P "_law_long" 736 (.ref 401),en P "_law_is_road" 744 (.ref 408),en P "_law_is_move" 754 (.ref 415),en P "_law_due" 760 (.ref 420),en P "_law_odd" 769 (.ref 427),en P "_law_bent" 779 (.ref 434),en P "_law_more" 785 (.ref 439),en P "_law_told" 794 (.ref 446),en P "_law_right" 804 (.ref 453),en P "_law_widest" 810 (.ref 458),en P "law" 816 (.ref 463)] 62,#[]⟩) <| cf 242 "is_whole" 504 59 1 508 UC m0 <| cf 249 "is_below" 511 61 2 516 UD m0 <| cf 256 "is_state" 519 63 1 523 UE m0 <| cf 263 "is_sign" 526 65 1 530 UG m0 <| List.cons (268,co #[(.str "is_word" 533),(.str "is_word" 534),(cp 535),(iv 67),(iv 1),(iv 0),(iv 0),(iv 3),(.ref 265),(.bool true),(iv 181),(.ref 266),.none,.none,.none,(.ref 267),(iv 536),(iv 67),(cp 537)]) <| List.cons (269,fo (fq "is_word" UH m0 (.ref 268))) <| cf 275 "is_tuple_of" 539 71 2 544 UI m0 <| cf 282 "is_tuple_to" 547 73 2 552 UJ m0 <| cf 289 "right_form" 565 80 1 576 LS m1 <| cf 296 "is_form_shaped" 579 95 1 583 UK m1 <| cf 303 "is_road" 586 99 2 591 LP m1 <| cf 310 "is_rule_shaped" 594 105 1 598 LQ m1 <| cf 317 "ask_moves" 601 107 3 610 LO m1 <| List.cons (322,co #[(.str "is_move" 613),(.str "is_move" 614),(cp 615),(iv 113),(iv 2),(iv 0),(iv 0),(iv 3),(.ref 319),(.bool true),(iv 181),(.ref 320),.none,.none,.none,(.ref 321),(iv 616),(iv 113),(cp 617)]) <| List.cons (323,fo (fq "is_move" UM m1 (.ref 322))) <| cf 329 "is_send" 619 121 2 624 UL m1 <| List.cons (334,co #[(.str "sends_of" 627),(.str "sends_of" 628),(cp 629),(iv 125),(iv 2),(iv 0),(iv 0),(iv 3),(.ref 331),(.bool true),(iv 181),(.ref 332),.none,.none,.none,(.ref 333),(iv 630),(iv 125),(cp 631)]) <| List.cons (335,fo (fq "sends_of" LR m1 (.ref 334))) <| cf 341 "_law_well" 635 128 2 641 LU m2 <| cf 348 "_law_draw" 644 133 2 653 LV m2 <| cf 355 "_law_roads" 656 143 2 666 LW m2 <| cf 362 "_law_states" 669 152 1 677 LX m2 <| cf 369 "_law_sends" 680 160 2 688 LY m2 <| cf 376 "_law_moves" 691 166 3 705 LZ m2 <| List.cons (381,co #[(.str "_law_form" 708),(.str "_law_form" 709),(cp 710),(iv 178),(iv 1),(iv 0),(iv 0),(iv 3),(.ref 378),(.bool true),(iv 181),(.ref 379),.none,.none,.none,(.ref 380),(iv 711),(iv 178),(cp 712)]) <| List.cons (382,fo (fq "_law_form" L0 m2 (.ref 381))) <| cf 388 "_law_whole" 714 190 3 720 L1 m2 <| List.cons (393,co #[(.str "_law_word" 723),(.str "_law_word" 724),(cp 725),(iv 192),(iv 2),(iv 0),(iv 0),(iv 3),(.ref 390),(.bool true),(iv 181),(.ref 391),.none,.none,.none,(.ref 392),(iv 726),(iv 192),(cp 727)]) <| List.cons (394,fo (fq "_law_word" L3 m2 (.ref 393))) <| cf 400 "_law_long" 729 196 2 734 L4 m2 <| cf 407 "_law_is_road" 737 198 2 742 L5 m2 <| cf 414 "_law_is_move" 745 204 3 752 L6 m2 <| List.cons (419,co #[(.str "_law_due" 755),(.str "_law_due" 756),(cp 757),(iv 215),(iv 1),(iv 0),(iv 0),(iv 3),(.ref 416),(.bool true),(iv 181),(.ref 417),.none,.none,.none,(.ref 418),(iv 758),(iv 215),(cp 759)]) <| List.cons (420,fo (fq "_law_due" L7 m2 (.ref 419))) <| cf 426 "_law_odd" 761 238 2 767 L8 m2 <| cf 433 "_law_bent" 770 248 3 777 L9 m2 <| List.cons (438,co #[(.str "_law_more" 780),(.str "_law_more" 781),(cp 782),(iv 253),(iv 2),(iv 0),(iv 0),(iv 3),(.ref 435),(.bool true),(iv 181),(.ref 436),.none,.none,.none,(.ref 437),(iv 783),(iv 253),(cp 784)]) <| List.cons (439,fo (fq "_law_more" L_ m2 (.ref 438))) <| cf 445 "_law_told" 786 274 1 792 Ma m2 <| cf 452 "_law_right" 795 285 1 802 Mb m2 <| [(457,co #[(.str "_law_widest" 805),(.str "_law_widest" 806),(cp 807),(iv 294),(iv 1),(iv 0),(iv 0),(iv 3),(.ref 454),(.bool true),(iv 181),(.ref 455),.none,.none,.none,(.ref 456),(iv 808),(iv 294),(cp 809)]),(458,fo (fq "_law_widest" Mc m2 (.ref 457))),(462,co #[(.str "law" 811),(.str "law" 812),(cp 813),(iv 300),(iv 1),(iv 0),(iv 0),(iv 3),(.ref 459),(.bool true),(iv 181),(.ref 460),.none,.none,.none,(.ref 461),(iv 814),(iv 300),(cp 815)]),(463,fo (fq "law" Hw m2 (.ref 462))),(24,kl "CutError" 24 23 [(.type "ValueError")] VE [(.ref 44),(.ref 63),(.ref 82),(.ref 101),(.ref 120),(.ref 139),(.ref 158),(.ref 177),(.ref 196),(.ref 215),(.ref 234)] (.ref 15) 189 197),(44,kl "NoForm" 44 43 [(.ref 24)] ((.ref 24)::VE) [] (.ref 28) 207 215),(63,kl "NoDeed" 63 62 [(.ref 24)] ((.ref 24)::VE) [] (.ref 47) 234 242),(82,kl "NoCut" 82 81 [(.ref 24)] ((.ref 24)::VE) [] (.ref 66) 259 267),(101,kl "NoTaking" 101 100 [(.ref 24)] ((.ref 24)::VE) [] (.ref 85) 286 294),(120,kl "NoNumbers" 120 119 [(.ref 24)] ((.ref 24)::VE) [] (.ref 104) 313 321),(139,kl "NoLine" 139 138 [(.ref 24)] ((.ref 24)::VE) [] (.ref 123) 340 348),(158,kl "NoZigzag" 158 157 [(.ref 24)] ((.ref 24)::VE) [] (.ref 142) 369 377),(177,kl "NoWorld" 177 176 [(.ref 24)] ((.ref 24)::VE) [] (.ref 161) 396 404),(196,kl "NoRun" 196 195 [(.ref 24)] ((.ref 24)::VE) [] (.ref 180) 423 431),(215,kl "NoText" 215 214 [(.ref 24)] ((.ref 24)::VE) [] (.ref 199) 448 456),(234,kl "NoRow" 234 233 [(.ref 24)] ((.ref 24)::VE) [] (.ref 218) 473 481),(43,⟨.type "dict",none,.dict #[en P "__module__" 214 (.str "cutstand.errors" 187),en P "__firstlineno__" 218 (.int 4 217),en P "__init__" 227 (.ref 41),en P "__static_attributes__" 230 (.ref 42),en P "__doc__" 231 .none] 2,#[]⟩),(23,⟨.type "dict",none,.dict #[en P "__module__" 196 (.str "cutstand.errors" 187),en P "__firstlineno__" 200 (.int 2 199),en P "__static_attributes__" 201 (.ref 22),en P "__weakref__" 203 (.ref 25),en P "__doc__" 204 .none] 3,#[]⟩),(40,co #[(.str "__init__" 219),(.str "NoForm.__init__" 220),(cp 221),(iv 6),(iv 3),(iv 0),(iv 0),(iv 3),(.ref 35),(.bool true),(iv 181),(.ref 36),.none,(.ref 37),(.ref 38),(.ref 39),(iv 225),(iv 6),(cp 226)]),(41,fo (PySem.W.fnOf "__init__" "NoForm.__init__" (fu y6) (bZ y6) (aG y6) .none .none .none m3 none (.ref 40) .none))]
noncomputable def ads:List Addr:=[3,242,243,249,250,256,257,263,264,268,269,275,276,282,283,289,290,296,297,303,304,310,311,317,318,322,323,329,330,334,335,341,342,348,349,355,356,362,363,369,370,376,377,381,382,388,389,393,394,400,401,407,408,414,415,419,420,426,427,433,434,438,439,445,446,452,453,457,458,462,463,24,44,63,82,101,120,139,158,177,196,215,234,43,23,40,41]
def vw:Program:={PySem.Challenge.pw_cutstand_k01_what_is_a_form with main:={PySem.Challenge.pw_cutstand_k01_what_is_a_form.main with body:=[bS 1,bS 2,bS 3,bS 4,bS 5,bS 6,bS 7,bS 8,bS 9,bS 10,bS 11,bS 12,bS 14,bS 15,bS 16,bS 17,bS 18,bS 19,bS 20,bS 21,bS 22,bS 24,bS 25,bS 26,bS 27,bS 28,bS 29,bS 30,bS 31,bS 32,bS 33,bS 34,bS 35,bS 37,bS 38,bS 39,bS 40,bS 41,bS 42,bS 43,bS 44,bS 45,bS 46,bS 47,bS 48,bS 49,bS 50,bS 51,bS 52,bS 53,bS 54,bS 55,bS 56]}}
def hk:PySem.W.Hook:=PySem.W.kHook Kf ads (λ_=>nofun)
open PySem.W in
theorem Md{tb:String->Option Builtin}{p:Program}{w:World}{Hx:Nat}{Rf:Option Value}:∀(n:Nat)(s:Shared)(t:Thread)(r:Flow×Shared×Code×Pos),segRun tb p w Hx Rf 0 n s t=some r->topRun tb p w Hx Rf n s t=some r.2.1
 | 0,s,t,r,h=>by rw[segRun.eq_def]at h;cases h
 | n+1,s,t,r,h=>by
  have te:through t=(endAt 0 t).isSome:=by
   unfold through endAt
   cases t.stack with
   | nil =>
    show(true&&_)=_;rw[zA];generalize t.cur=c
    cases c with
    | pure x=>cases x<;>rfl
    | _=>rfl
   | cons x l =>
    show(false&&_)=_;rw[lM];rfl
  rw[segRun.eq_def]at h;rw[topRun.eq_def];simp only at h⊢;rw[te]
  cases e:endAt 0 t with
  | some f=>rw[e]at h;cases h;rfl
  | none =>
   rw[e]at h;simp only[Option.isSome_none]at h⊢
   cases k:stepOk Hx Rf t with
   | false=>rw[k]at h;cases h
   | true =>
    rw[k]at h;simp only at h⊢
    cases q:step (denote tb) p w s t with
    | go s' t'=>rw[q]at h;exact Md n s' t' r h
    | halt o s=>rw[q]at h;cases h
open PySem.W in
noncomputable def Hy(l:List Obj):BT:=(l.foldl (λ(q:BT×Nat) o=>(q.1.ins q.2 o,q.2+1)) (BT.nil,0)).1
open PySem.W in
def Mf(s:Shared):SharedT:=⟨Hy s.heap.objs.toList,s.heap.objs.size,s.heap.life,s.gens,s.drawn,s.toks,s.os⟩
open PySem.W in
def zD(p:Program)(w:World)(N:Nat):Option (Shared×SharedT):=(fencedOpening treeTable p w N).bind λs=>(segRunT treeTable p w s.heap.objs.size (s.heap.nsMap mainGlobals (Str.ofString "__annotations__")) 0 N (Mf s) (topStub p)).map λr=>(s,r.2.1)
open PySem.W in
theorem Hz{p q:Program}{Xt:Shared->Bool}{α:Type}{Yf:Shared->α}{Ya:World->α}{N:Nat}(hA:∀w,(zD p w N).map (λs=>(openSeen q [] (importedModules p.main.body) Xt true s.2.abs,Yf s.2.abs))=some (openGood q [],Ya w))(hB:∀w,(zD p w N).map (λs=>(s.1.heap.isNs mainGlobals&&s.1.gens.size==0,staticsOk (importedModules p.main.body) s.1.heap s.2.abs.heap&&namesBound p s.2.abs.heap&&gensDone s.2.abs&&laidKept s.1.heap s.2.abs.heap))=some (true,true))(hC:∀w,(fencedOpening treeTable p w N).map (λs=>(Mf s).abs)=fencedOpening treeTable p w N):LeftO p q [] Xt Yf Ya N:=by
 intro w;have hA:=hA w;have hB:=hB w;have hC:=hC w;unfold zD at hA hB;unfold openEnds
 cases hO:fencedOpening treeTable p w N with
 | none=>rw[hO]at hA;cases hA
 | some s =>
  rw[hO]at hA hB hC;have hC:(Mf s).abs=s:=cu hC;simp only[Option.bind_some]at hA hB⊢
  cases hR:segRunT treeTable p w s.heap.objs.size (s.heap.nsMap mainGlobals (Str.ofString "__annotations__")) 0 N (Mf s) (topStub p)with
  | none=>rw[hR]at hA;cases hA
  | some r =>
   obtain⟨f,sT,c,q⟩:=r;rw[hR]at hA hB;have h1:=segRun_of hR;rw[hC]at h1;have h2:=Md _ _ _ _ h1;simp only[C_,qW,zB]at hA hB;unfold topFrom;rw[hB.1];simp only[h2,Option.bind_some];rw[hB.2];simp only[C_,hA.1,hA.2]
theorem V2:∀w,(zD PySem.Challenge.pw_cutstand_k01_what_is_a_form w 8206).map (λs=>(PySem.W.openSeen vw [] (importedModules PySem.Challenge.pw_cutstand_k01_what_is_a_form.main.body) (λs=>PySem.W.xlAt vw [] s&&PySem.W.recOk [] s) true s.2.abs,PySem.W.Hook.obs hk s.2.abs))=some (PySem.W.openGood vw [],PySem.W.Hook.val hk w):=by
 intro w
 kernel_rfl
theorem V3:∀w,(zD PySem.Challenge.pw_cutstand_k01_what_is_a_form w 8206).map (λs=>(s.1.heap.isNs mainGlobals&&s.1.gens.size==0,PySem.W.staticsOk (importedModules PySem.Challenge.pw_cutstand_k01_what_is_a_form.main.body) s.1.heap s.2.abs.heap&&PySem.W.namesBound PySem.Challenge.pw_cutstand_k01_what_is_a_form s.2.abs.heap&&PySem.W.gensDone s.2.abs&&PySem.W.laidKept s.1.heap s.2.abs.heap))=some (true,true):=by
 intro w
 kernel_rfl
theorem V4:∀w,(PySem.W.fencedOpening treeTable PySem.Challenge.pw_cutstand_k01_what_is_a_form w 8206).map (λs=>(Mf s).abs)=PySem.W.fencedOpening treeTable PySem.Challenge.pw_cutstand_k01_what_is_a_form w 8206:=by
 intro w
 kernel_rfl
theorem V5:PySem.W.LeftO PySem.Challenge.pw_cutstand_k01_what_is_a_form vw [] (λs=>PySem.W.xlAt vw [] s&&PySem.W.recOk [] s) (PySem.W.Hook.obs hk) (PySem.W.Hook.val hk) 8206:=Hz V2 V3 V4
end br
end
section
namespace L2
open PySem PySem.Spec PyProof.Rows
abbrev bC:=Sum Int Str
noncomputable def nO:bC->Value->Bool
 | .inl k,v=>Value.isInt k v
 | .inr x,v=>Value.isStrOf x v
noncomputable def Rg(w:World):bC->Int
 | .inl k=>hashInt k
 | .inr x=>hashStr w x
theorem bT:∀{k:bC}{v:Value},nO k v=true->(∃i t,k=Sum.inl i/\v=Value.int i t)\/(∃x t,k=Sum.inr x/\v=Value.str x t)
 | .inl i,v,h=>by
  obtain⟨t,e⟩:=Value.isInt_shape (k:=i) (v:=v) h;exact .inl ⟨i,t,rfl,e⟩
 | .inr x,v,h=>by
  obtain⟨t,e⟩:=Value.isStrOf_shape (x:=x) (v:=v) h;exact .inr ⟨x,t,rfl,e⟩
theorem xZ(i:Int)(t:Tok):nO (.inl i) (.int i t)=true:=by simp[nO,Value.isInt]
theorem x3(x:Str)(t:Tok):nO (.inr x) (.str x t)=true:=by simp[nO,Value.isStrOf]
theorem HA(a b:Int):decide ((Sum.inl a:bC)=Sum.inl b)=(a==b):=by
 by_cases e:a=b
 ·subst e;simp
 ·have h:¬(Sum.inl a:bC)=Sum.inl b:=λq=>e (Sum.inl.inj q);rw[bx h];exact(iR.mpr e).symm
theorem HB(a b:Str):decide ((Sum.inr a:bC)=Sum.inr b)=decide (a=b):=by
 by_cases e:a=b
 ·subst e;simp
 ·have h:¬(Sum.inr a:bC)=Sum.inr b:=λq=>e (Sum.inr.inj q);rw[bx h,bx e]
theorem HC(a:Int)(b:Str):decide ((Sum.inl a:bC)=Sum.inr b)=false:=bx (λq=>nomatch q)
theorem HD(a:Str)(b:Int):decide ((Sum.inr a:bC)=Sum.inl b)=false:=bx (λq=>nomatch q)
def b_(prog:Program)(w:World):PySem.KeyKind prog w bC where
 is:=nO
 hash:=Rg w
 inj:=λv a b ha hb=>by
  rcases bT ha with⟨i,t,rfl,rfl⟩|⟨x,t,rfl,rfl⟩
  ·rcases bT hb with⟨j,u,rfl,e⟩|⟨y,u,rfl,e⟩
   ·injection e with e1 _;rw[e1]
   ·exact nomatch e
  ·rcases bT hb with⟨j,u,rfl,e⟩|⟨y,u,rfl,e⟩
   ·exact nomatch e
   ·injection e with e1 _;rw[e1]
 byValue:=λk v h=>by
  rcases bT h with⟨i,t,rfl,rfl⟩|⟨x,t,rfl,rfl⟩<;>rfl
 pyHash:=λhv h=>by
  rcases bT hv with⟨i,t,rfl,rfl⟩|⟨x,t,rfl,rfl⟩
  ·exact wpAny_pyHash_int h
  ·exact wpAny_pyHash_str h
 eqBool:=λhu hv h=>by
  rcases bT hu with⟨i,t,rfl,rfl⟩|⟨x,t,rfl,rfl⟩
  ·rcases bT hv with⟨j,u,rfl,rfl⟩|⟨y,u,rfl,rfl⟩
   ·rw[HA]at h;exact wpAny_eqBool_int h
   ·rw[HC]at h;exact SeqAt.EqAt.int_str i t y u _ _ _ _ h
  ·rcases bT hv with⟨j,u,rfl,rfl⟩|⟨y,u,rfl,rfl⟩
   ·rw[HD]at h;exact SeqAt.EqAt.str_int x t j u _ _ _ _ h
   ·rw[HB]at h;exact wpAny_eqBool_str h
 «strs»:=λk x t v h=>by
  rcases bT h with⟨i,u,rfl,e⟩|⟨y,u,rfl,e⟩
  ·exact nomatch e
  ·injection e with e1 _;subst e1;cases v<;>rfl
theorem rm(prog:Program)(w:World)(i:Int)(t:Tok):(b_ prog w).is (.inl i) (.int i t)=true:=xZ i t
theorem rn(prog:Program)(w:World)(x:Str)(t:Tok):(b_ prog w).is (.inr x) (.str x t)=true:=x3 x t
inductive V where
 | aK | bl (b:Bool) | int (i:Int) | str (x:Str) | F0 (b:Array UInt8) | Dj (b:UInt64) | ref (a:Addr) | ty (n:String)
 deriving DecidableEq
noncomputable def RelV:V->Value->Prop
 | .aK,u=>u=Value.none
 | .bl b,u=>u=Value.bool b
 | .int i,u=>∃t,u=Value.int i t
 | .str x,u=>∃t,u=Value.str x t
 | .F0 b,u=>∃t,u=Value.bytes b t
 | .Dj b,u=>∃t,u=Value.float b t
 | .ref a,u=>u=Value.ref a
 | .ty n,u=>u=Value.type n
abbrev aO:List V->List Value->Prop:=Paired RelV
theorem aO.length{xs:List V}{us:List Value}(r:aO xs us):xs.length=us.length:=Paired.length r
theorem aO.get:∀{xs:List V}{us:List Value}{i:Nat}{x:V},aO xs us->xs[i]?=some x->∃u,us[i]?=some u/\RelV x u
 | _,_,_,_,.nil,e=>by simp at e
 | _,_,0,_,.cons r _,e=>by simp at e;subst e;exact⟨_,rfl,r⟩
 | _,_,i+1,x,.cons _ t,e=>by
  obtain⟨u,h1,h2⟩:=aO.get (i:=i) (x:=x) t (by simpa using e);exact⟨u,by simpa using h1,h2⟩
theorem aO.set{x:V}{u:Value}(r:RelV x u):∀{xs:List V}{us:List Value}(i:Nat),aO xs us->aO (xs.set i x) (us.set i u)
 | _,_,_,.nil=>.nil
 | _,_,0,.cons _ t=>.cons r t
 | _,_,i+1,.cons q t=>.cons q (aO.set r i t)
theorem aO.append:∀{xs ys:List V}{us ws:List Value},aO xs us->aO ys ws->aO (xs++ys) (us++ws)
 | _,_,_,_,.nil,s=>s
 | _,_,_,_,.cons r t,s=>.cons r (aO.append t s)
theorem aO.take:∀{xs:List V}{us:List Value}(n:Nat),aO xs us->aO (xs.take n) (us.take n)
 | _,_,0,_=>.nil
 | _,_,_+1,.nil=>.nil
 | _,_,n+1,.cons r t=>.cons r (aO.take n t)
theorem aO.drop:∀{xs:List V}{us:List Value}(n:Nat),aO xs us->aO (xs.drop n) (us.drop n)
 | _,_,0,r=>r
 | _,_,_+1,.nil=>.nil
 | _,_,n+1,.cons _ t=>aO.drop n t
def iT:Option V->Option Value->Prop
 | some v,some u=>RelV v u
 | none,none=>True
 | _,_=>False
def KV{κ:Type}:List (κ×V)->List (κ×Value)->Prop:=Paired λ(p:κ×V) (q:κ×Value)=>p.1=q.1/\RelV p.2 q.2
def kV:bC->V
 | .inl i=>.int i
 | .inr x=>.str x
inductive HO where
 | lst (xs:List V)
 | tup (xs:List V)
 | dK (ao:List (bC×V)) | dT (ao:List (List bC×V))
 | set (S:Int->Bool) (n:Nat)
 | ins (C dx:Addr) (fs:List (Str×V))
 | own (x:Addr)
 | xd (fs:List (Str×V))
 | met (f x:Addr)
 | jV (lo hi:Int)
 | gA (o:Obj) (u:HO)
 | HE (ps:Array Value)
 | ext (φ:Heap->Prop)
abbrev Hp:=Addr->Option HO
noncomputable def a_(H:Hp)(a:Addr)(o:HO):Hp:=λb=>if b=a then some o else H b
theorem aB{H:Hp}{a:Addr}{o:HO}:a_ H a o a=some o:=by unfold a_;rw[aU rfl]
theorem ai{H:Hp}{a b:Addr}{o:HO}(h:b≠a):a_ H a o b=H b:=by unfold a_;rw[aX h]
theorem Mg{H:Hp}{a b:Addr}{o u:HO}(h:H a=some o)(h':H b=some u)(d:o≠u):a≠b:=by
 intro e;subst e;rw[h]at h';exact d (cu h')
theorem eX{H:Hp}{a b:Addr}{o:HO}(h:H a=some o)(h':H b=none):a≠b:=by
 intro e;subst e;rw[h]at h';cases h'
section
variable (P:Program) (w:World)
def ba(H:Hp)(h:Heap)(a:Addr):HO->Prop
  | .lst xs=>xs.length<=sizeLine/\∃(aA:List Value) (n:Nat),aO xs aA/\h.get? a=some {cls:=.type "list",data:=.seq aA.toArray n}
  | .tup xs=>xs.length<=sizeLine/\∃aA:List Value,aO xs aA/\IsTup h a aA.toArray
  | .dK ao=>ao.length<=sizeLine/\(a==sysModules)=false/\∃vs,KV ao vs/\h.DictOf (b_ P w) a vs
  | .dT ao => ao.length <= sizeLine /\ (a == sysModules) = false /\ ∃ xs : List (List bC × Addr × Value),
      Paired (λ(p:List bC×V) (q:List bC×Addr×Value)=>p.1=q.1/\H q.2.1=some (.tup (p.1.map kV))/\RelV p.2 q.2.2) ao xs /\
      ∃o es ep,h.get? a=some o/\o.ExactDict/\o.data=.dict es ep/\es.toList=xs.map (entryOfKey (tupleKind (b_ P w)))/\(xs.map (·.1)).Nodup
  | .set S n=>h.SetOf (intKind P w) a S n
  | .ins C dx fs => H dx = some (.own a) /\ fs.length <= 1000 /\ dx ≠ a /\ h.get? a = some (PySem.W.instObj C dx) /\
      ∃mA,h.Ns1 dx mA/\(∀f,iT (fs.lookup f) (mA f))/\PySem.Within mA (fs.map (·.1))
  | .own _=>∃o,h.get? a=some o
  | .xd fs=>∃mA,h.Ns1 a mA/\∀f,iT (fs.lookup f) (mA f)
  | .jV lo hi=>∃t u v,h.get? a=some {cls:=.type "range",data:=.fields #[.int lo t,.int hi u,.int 1 v]}
  | .gA o u=>h.get? a=some o/\ba H h a u
  | .HE ps=>h.get? a=some {cls:=.none,data:=.fields ps}
  | .met f x=>h.get? a=some (PySem.W.methodObj (.ref f) (.ref x))
  | .ext φ=>φ h/\(∃o,h.get? a=some o)/\∀h1 h2:Heap,φ h1->(∀o,h1.get? a=some o->h2.get? a=some o)->φ h2
def iF(H:Hp)(h:Heap):Prop:=∀a o,H a=some o->ba P w H h a o
end
section
variable {P:Program} {w:World} {H H':Hp} {h h':Heap} {a:Addr} {o:HO}
theorem ba.lt(x:ba P w H h a o):a<h.objs.size:=by
 cases o with
 | lst xs=>obtain⟨_,_,_,_,e⟩:=x;exact bE e
 | tup xs=>obtain⟨_,_,_,p⟩:=x;exact p.lt
 | dK ao=>obtain⟨_,_,_,_,o,_,_,e,_⟩:=x;exact bE e
 | dT ao=>obtain⟨_,_,_,_,o,_,_,e,_⟩:=x;exact bE e
 | set S n=>obtain⟨o,_,_,_,e,_⟩:=x;exact bE e
 | ins C dx fs=>obtain⟨_,_,_,e,_⟩:=x;exact bE e
 | own y=>obtain⟨_,e⟩:=x;exact bE e
 | xd fs=>obtain⟨_,⟨_,_,_,e,_⟩,_⟩:=x;exact bE e
 | jV lo hi=>obtain⟨_,_,_,e⟩:=x;exact bE e
 | gA ob u=>obtain⟨e,_⟩:=x;exact bE e
 | HE ps=>exact bE (show h.get? a=some _ from x)
 | met f y=>exact bE (show h.get? a=some _ from x)
 | ext φ=>obtain⟨_,⟨_,e⟩,_⟩:=x;exact bE e
theorem Paired.HF{α β:Type}{F G:α->β->Prop}:∀{l₁:List α}{l₂:List β},Paired F l₁ l₂->(∀a b,F a b->G a b)->Paired G l₁ l₂
 | _,_,.nil,_=>.nil
 | _,_,.cons r t,f=>.cons (f _ _ r) (Paired.HF t f)
theorem ba.nj(x:ba P w H h a o)(k:∀b u,(b=a\/H b=some (.own a))->h.get? b=some u->h'.get? b=some u)(ho:∀b,H b=some (.own a)->H' b=some (.own a))(ht:∀b xs,H b=some (.tup xs)->H' b=some (.tup xs)):ba P w H' h' a o:=by
 induction o with
 | lst xs=>obtain⟨z,aA,n,r,e⟩:=x;exact⟨z,aA,n,r,k _ _ (.inl rfl) e⟩
 | tup xs=>obtain⟨z,aA,r,ob,e,c⟩:=x;exact⟨z,aA,r,ob,k _ _ (.inl rfl) e,c⟩
 | dK ao=>obtain⟨z,y,vs,r,ob,es,ep,e,c⟩:=x;exact⟨z,y,vs,r,ob,es,ep,k _ _ (.inl rfl) e,c⟩
 | dT ao =>
  obtain⟨z,y,xs,r,ob,es,ep,e,c⟩:=x;exact⟨z,y,xs,Paired.HF r λp q z=>⟨z.1,ht _ _ z.2.1,z.2.2⟩,ob,es,ep,k _ _ (.inl rfl) e,c⟩
 | set S n=>obtain⟨ob,es,ep,t,e,c⟩:=x;exact⟨ob,es,ep,t,k _ _ (.inl rfl) e,c⟩
 | ins C dx fs =>
  obtain⟨d,z,ne,e,mA,⟨od,es,ep,e2,c⟩,r⟩:=x;exact⟨ho _ d,z,ne,k _ _ (.inl rfl) e,mA,⟨od,es,ep,k _ _ (.inr d) e2,c⟩,r⟩
 | own y=>obtain⟨ob,e⟩:=x;exact⟨ob,k _ _ (.inl rfl) e⟩
 | xd fs=>obtain⟨mA,⟨od,es,ep,e,c⟩,r⟩:=x;exact⟨mA,⟨od,es,ep,k _ _ (.inl rfl) e,c⟩,r⟩
 | jV lo hi=>obtain⟨t,u,v,e⟩:=x;exact⟨t,u,v,k _ _ (.inl rfl) e⟩
 | gA ob u ih=>obtain⟨e,q⟩:=x;exact⟨k _ _ (.inl rfl) e,ih q⟩
 | HE ps =>
  have e:h.get? a=some {cls:=.none,data:=.fields ps}:=x;show h'.get? a=some {cls:=.none,data:=.fields ps};exact k a _ (.inl rfl) e
 | met f y =>
  have e:h.get? a=some (PySem.W.methodObj (.ref f) (.ref y)):=x;show h'.get? a=some (PySem.W.methodObj (.ref f) (.ref y));exact k a _ (.inl rfl) e
 | ext φ=>obtain⟨p,⟨o,e⟩,st⟩:=x;exact⟨st _ _ p λo q=>k _ _ (.inl rfl) q,⟨o,k _ _ (.inl rfl) e⟩,st⟩
theorem iF.lt(x:iF P w H h)(e:H a=some o):a<h.objs.size:=(x a o e).lt
theorem iF.fresh(x:iF P w H h)(e:h.objs.size<=a):H a=none:=by
 cases q:H a with
 | none=>rfl
 | some u=>exact absurd (ft (x.lt q) e) (lN _)
theorem iF.kept(x:iF P w H h)(k:∀b u,h.get? b=some u->h'.get? b=some u):iF P w H h':=λa o e =>
 (x a o e).nj (λb u _ q=>k b u q) (λ_ q=>q) λ_ _ q=>q
theorem iF.laid(x:iF P w H h)(k:∀b u,h.get? b=some u->h'.get? b=some u)(hp:h.objs.size<=a)(new:ba P w (a_ H a o) h' a o):iF P w (a_ H a o) h':=λb u e=>by
 have hn:=x.fresh hp;by_cases hb:b=a
 ·subst hb;rw[aB]at e;cases e;exact new
 ·rw[ai hb]at e;exact(x b u e).nj (λc v _ q=>k c v q) (λc q=>by rw[ai (eX q hn)];exact q) λc xs q=>by rw[ai (eX q hn)];exact q
end
noncomputable def Rd(H:Hp)(a:Addr)(u:HO):Prop:=H a=some u\/∃o,H a=some (.gA o u)
theorem Rd.ok{P:Program}{w:World}{H:Hp}{h:Heap}{a:Addr}{u:HO}(r:Rd H a u)(x:iF P w H h):ba P w H h a u:=by
 rcases r with r | ⟨o,r⟩
 ·exact x a u r
 ·obtain⟨_,q⟩:=x a _ r;exact q
noncomputable def Mh:Option HO->Prop
 | some (.lst _)=>True
 | some (.dK _)=>True
 | some (.dT _)=>True
 | some (.set _ _)=>True
 | some (.ins _ _ _)=>True
 | some (.ext _)=>True
 | _=>False
section
variable {P:Program} {w:World} {H:Hp} {h h':Heap} {x e:Addr} {o':HO}
theorem iF.write(ok:iF P w H h)(mu:Mh (H x))(he:e=x\/H e=some (.own x))(k:∀b u,b≠e->h.get? b=some u->h'.get? b=some u)(K9:∃u,h'.get? e=some u)(new:ba P w (a_ H x o') h' x o'):iF P w (a_ H x o') h':=λb u q=>by
 have Mi:∀c y,H c=some (.own y)->c≠x:=λc y r z=>by subst z;rw[r]at mu;exact mu
 have Rh:∀c xs,H c=some (.tup xs)->c≠x:=λc xs r z=>by subst z;rw[r]at mu;exact mu
 by_cases hb:b=x
 ·subst hb;rw[aB]at q;cases q;exact new
 ·rw[ai hb]at q;by_cases HG:b=e
  ·have q':H b=some (.own x):=by
    rcases he with z | z
    ·exact absurd (HG.trans z) hb
    ·rw[HG];exact z
   rw[q]at q';cases q';obtain⟨v,hv⟩:=K9;exact⟨v,by rw[HG];exact hv⟩
  ·refine(ok b u q).nj (λc v hc r=>k c v ?_ r) (λc r=>by rw[ai (Mi c b r)];exact r) λc xs r=>by rw[ai (Rh c xs r)];exact r
   rcases hc with rfl | hc
   ·exact HG
   ·rintro rfl;rcases he with z | z
    ·exact Mi c b hc z
    ·rw[hc]at z;cases z;exact hb rfl
end
structure Un (fs ex:List Addr) (H H':Hp) (h h':Heap):Prop where
 keep:∀b o,h.get? b=some o->H b=none->b∉fs->b∉ex->h'.get? b=some o
 slot:∀b o,h.get? b=some o->H b=none->b∈fs->b∉ex->∃sl,h'.get? b=some {o with slots:=sl}
 free:∀b o,h.get? b=some o->H b=none->b∉ex->H' b=none
 there:∀b o,h.get? b=some o->b∉ex->∃o',h'.get? b=some o'
 fQ:∀b xs,H b=some (.tup xs)->H' b=some (.tup xs)
 nk:∀b o u,H b=some (.gA o u)->H' b=some (.gA o u)
 pb:∀b ps,H b=some (.HE ps)->∃lg,H' b=some (.HE (ps++lg))
section
variable {fs V6 ex ex':List Addr} {H H1 H2:Hp} {h h1 h2 h':Heap} {a x e:Addr} {o:HO}
theorem Un.any(u:Un fs ex H H1 h h1){b:Addr}{ob:Obj}(q:h.get? b=some ob)(n:H b=none)(hx:b∉ex):∃sl,h1.get? b=some {ob with slots:=sl}:=by
 by_cases hb:b∈fs
 ·exact u.slot b ob q n hb hx
 ·exact⟨ob.slots,u.keep b ob q n hb hx⟩
theorem Un.kept(k:∀b u,h.get? b=some u->h'.get? b=some u):Un fs ex H H h h' :=
 ⟨λb ob q _ _ _=>k b ob q,λb ob q _ _ _=>⟨ob.slots,k b ob q⟩,λ_ _ _ n _=>n,λb ob q _=>⟨ob,k b ob q⟩,λ_ _ q=>q,λ_ _ _ q=>q,λ_ ps q=>⟨#[],by rw[q];simp⟩⟩
theorem Un.refl:Un fs ex H H h h:=Un.kept λ_ _ q=>q
theorem Un.laid(k:∀b u,h.get? b=some u->h'.get? b=some u)(hp:h.objs.size<=a)(hn:H a=none):Un fs ex H (a_ H a o) h h' where
 keep:=λb u q _ _ _=>k b u q
 slot:=λb u q _ _ _=>⟨u.slots,k b u q⟩
 free:=λb u q n _=>by rw[ai (eW (ft (bE q) hp))];exact n
 there:=λb u q _=>⟨u,k b u q⟩
 fQ:=λb xs q=>by rw[ai (eX q hn)];exact q
 nk:=λb u xs q=>by rw[ai (eX q hn)];exact q
 pb:=λb ps q=>⟨#[],by rw[ai (eX q hn),q];simp⟩
theorem Un.write(mu:Mh (H x))(he:e=x\/H e=some (.own x))(k:∀b u,b≠e->h.get? b=some u->h'.get? b=some u)(K9:∃u,h'.get? e=some u):Un fs ex H (a_ H x o) h h':=by
 have hx:∀b,H b=none->b≠x:=λb n z=>by subst z;rw[n]at mu;exact mu
 have hb:∀b,H b=none->b≠e:=λb n z=>by
  subst z;rcases he with r | r
  ·exact hx b n r
  ·rw[n]at r;cases r
 have hm:∀b u,H b=some u->¬Mh (some u)->b≠x:=λb u q nm z=>by subst z;rw[q]at mu;exact nm mu
 refine⟨λb u q n _ _=>k b u (hb b n) q,λb u q n _ _=>⟨u.slots,k b u (hb b n) q⟩,λb u q n _=>by rw[ai (hx b n)];exact n,λb u q _=>?_,
  λb xs q=>by rw[ai (hm b _ q λz=>z)];exact q,λb u xs q=>by rw[ai (hm b _ q λz=>z)];exact q,λb ps q=>⟨#[],by rw[ai (hm b _ q λz=>z),q];simp⟩⟩
 by_cases HG:b=e
 ·subst HG;exact K9
 ·exact⟨u,k b u HG q⟩
end
noncomputable def PV(h:Heap)(H:Hp):List Addr:=(List.range h.objs.size).filter λa=>(H a).isSome
def pd(h:Heap)(H:Hp):Heap:=PySem.W.hideAll h (PV h H)
theorem x4(h:Heap)(H:Hp):(pd h H).objs.size=h.objs.size:=PySem.W.hideAll_size _ _
theorem zE{h:Heap}{H:Hp}{b:Addr}{o:Obj}(e:h.get? b=some o)(n:H b=none):(pd h H).get? b=some o :=
 PySem.W.hideAll_get _ e λhm=>by
  have q:(H b).isSome=true:=(List.mem_filter.mp hm).2;rw[n]at q;simp at q
theorem Dk{h:Heap}{H:Hp}{b:Addr}{o:Obj}(e:(pd h H).get? b=some o):h.get? b=some o/\H b=none:=by
 have e':h.get? b=some o:=PySem.W.of_hideAll (PV h H) e;refine⟨e',?_⟩
 cases q:H b with
 | none=>rfl
 | some x =>
  have hm:b∈PV h H:=List.mem_filter.mpr ⟨tZ.mpr (bE e'),by simp[q]⟩;have z:(pd h H).get? b=none:=PySem.W.hideAll_none (PV h H) hm;rw[z]at e;cases e
structure Mod (K:PySem.W.Frag) (mg:Str->Option Value) (base:Heap):Prop where
 Mj:K.In base
 glob:base.Ns mainGlobals mg
 blt:∃mb,base.Ns builtinsNs mb/\∀x:Str,x≠ "__name__" -> mb x=bootBuiltins x
 nolimit:base.NoLimit
structure Cx where
 prog:Program
 w:World
 K:PySem.W.Frag
 mg:Str->Option Value
 base:Heap
 A:Around
 N:List Str
 dr:Shared
 lO:Hp
 env:Env
 outer:List Env
 stack:List Env
 ex:List Addr
 fn:Str->Bool
 calm:Bool
 pn:List (Addr×Obj)
 xe:Value->Shared->Prop
def x5(l:List Env):List Addr:=l.filterMap (·.frame)
abbrev Cx.fs(X:Cx):List Addr:=x5 X.outer
noncomputable def PX(sc:Scope)(x:Str):Prop:=sc.names.lookup x=some .local\/sc.names.lookup x=some .cell\/sc.names.lookup x=some .free
noncomputable def Loc(sc:Scope)(x:Str):Prop:=sc.names.lookup x=some .local\/sc.names.lookup x=some .cell
noncomputable def Look(env:Env)(h:Heap)(m:Str->Option Value)(x:Str)(u:Value):Prop :=
 (env.kindOf x=some .local/\m x=some u)\/((env.kindOf x=some .cell\/env.kindOf x=some .free)/\∃c,env.cells.lookup x=some c/\h.IsCell c (some u))
structure Cx.Ok (X:Cx):Prop where
 mod:Mod X.K X.mg X.base
 kind:X.env.scope.kind=.function
 glob:X.env.globals=mainGlobals
 blt:X.env.builtins=builtinsNs
 above:X.dr.heap.objs.size<=X.env.locals
 inj:∀x y c,X.env.cells.lookup x=some c->X.env.cells.lookup y=some c->x=y
 has:∀x,(X.env.kindOf x=some .cell\/X.env.kindOf x=some .free)->∃c,X.env.cells.lookup x=some c
 F1:∀x c,X.fn x=true->X.env.cells.lookup x=some c->X.dr.heap.objs.size<=c
 hd:X.calm=true->X.A.handled=none
 frames:X.A.frames=some X.stack
 vt:X.stack=X.outer\/(X.stack=X.env::X.outer/\X.env.frame=some X.env.locals)
 PY:∀b∈X.ex,b≠X.env.locals/\∀x c,X.env.cells.lookup x=some c->c≠b
 bs:∀b o,X.base.get? b=some o->X.dr.heap.get? b=some o/\X.lO b=none
 CI:X.base.objs.size<=X.dr.heap.objs.size
 x6:∀b o,X.base.get? b=some o->b∉X.ex
 x8:∀b∈X.ex,b∉X.fs
 j6:X.dr.heap.FunFrames X.base X.outer
 F2:∀b∈X.fs,X.lO b=none
structure Inv (X:Cx) (aa:List (Addr×Obj)) (σ:List (Option V)) (H:Hp) (s:Shared):Prop where
 ok:X.Ok
 os:s.os=X.dr.os
 bare:AllBare s.gens
 base:Un X.fs X.ex X.lO H X.dr.heap s.heap
 loc:∃m,s.heap.Ns X.env.locals m/\∀(i:Nat)(x:Str)(v:V),X.N[i]?=some x->σ[i]?=some (some v)->PX X.env.scope x->∃u,RelV v u/\Look X.env s.heap m x u
 cell:∀x c,X.env.cells.lookup x=some c->∃v,s.heap.IsCell c v
 free:H X.env.locals=none
 fR:∀x c,X.env.cells.lookup x=some c->H c=none
 pin:∀p∈X.pn++aa,s.heap.get? p.1=some p.2/\H p.1=none/\p.1≠X.env.locals/\p.1∉X.fs/\∀v,p.2.data≠.cell v
 bc:iF X.prog X.w H s.heap
 len:σ.length=X.N.length
section
variable {X:Cx} {aa:List (Addr×Obj)} {σ:List (Option V)} {H H':Hp} {s:Shared} {h':Heap}
theorem Cx.Ok.Ri(ok:X.Ok){b:Addr}{o:Obj}(e:X.base.get? b=some o):b∉X.fs:=λhb=>by
 have:=(ok.j6.mem hb).1;rw[e]at this;cases this
theorem Inv.bs(I:Inv X aa σ H s):∀b o,X.base.get? b=some o->s.heap.get? b=some o/\H b=none:=λb o e =>
 ⟨I.base.keep b o (I.ok.bs b o e).1 (I.ok.bs b o e).2 (I.ok.Ri e) (I.ok.x6 b o e),I.base.free b o (I.ok.bs b o e).1 (I.ok.bs b o e).2 (I.ok.x6 b o e)⟩
theorem Inv.bk(I:Inv X aa σ H s):∀b o,X.base.get? b=some o->s.heap.get? b=some o:=λb o e=>(I.bs b o e).1
theorem Inv.mod(I:Inv X aa σ H s):Mod X.K X.mg X.base:=I.ok.mod
theorem Inv.iU(I:Inv X aa σ H s):X.K.In s.heap:=I.ok.mod.Mj.keeps I.bk
theorem Inv.lt(I:Inv X aa σ H s):X.env.locals<s.heap.objs.size:=let ⟨_,hn,_⟩:=I.loc;hn.lt
theorem Inv.sz(I:Inv X aa σ H s):X.dr.heap.objs.size<=s.heap.objs.size:=bJ I.ok.above (oY I.lt)
theorem Inv.Mk(I:Inv X aa σ H s){a:Addr}(h:s.heap.objs.size<=a):a∉X.fs:=λhb=>by
 obtain⟨_,o,ho,_⟩:=I.ok.j6.mem hb;exact absurd (ft (bE ho) (bJ I.sz h)) (lN _)
theorem Inv.Dl(I:Inv X aa σ H s):∀x c,X.env.cells.lookup x=some c->c≠X.env.locals:=λx c e z=>by
 obtain⟨v,o,ho,hd⟩:=I.cell x c e;obtain⟨m,⟨o',es,ep,zF,Ml,_⟩,_⟩:=I.loc;rw[z,zF]at ho;cases ho;rw[Ml]at hd;cases hd
theorem Inv.j6(I:Inv X aa σ H s):s.heap.FunFrames X.base X.outer:=by
 have all:∀(l:List Env),(∀b∈x5 l,b∈X.fs)->X.dr.heap.FunFrames X.base l->s.heap.FunFrames X.base l:=by
  intro l
  induction l with
  | nil=>intro _ _;trivial
  | cons env r ih =>
   intro hs hl;obtain⟨hk,⟨L,o,hf,hn,ho,hd⟩,hr⟩:=hl;have hL:L∈X.fs:=hs L (by unfold x5;rw[xB,hf];exact dD);obtain⟨sl,e⟩:=I.base.slot L o ho (I.ok.F2 L hL) hL λz=>I.ok.x8 L z hL;exact⟨hk,⟨L,_,hf,hn,e,hd⟩,ih (λb hb=>hs b (by unfold x5;rw[xB,hf];exact dB _ hb)) hr⟩
 exact all X.outer (λ_ hb=>hb) I.ok.j6
theorem Inv.stack(I:Inv X aa σ H s):s.heap.FunFrames X.base X.stack:=by
 rcases I.ok.vt with e | ⟨e,hf⟩
 ·rw[e];exact I.j6
 ·rw[e];obtain⟨m,hn,_⟩:=I.loc;refine .cons (by rw[I.ok.kind];decide) hf hn ?_ I.j6;exact Hj (bJ I.ok.CI I.ok.above)
theorem Inv.pe(I:Inv X aa σ H s):∀b∈x5 X.stack,b∈X.env.locals::X.fs:=λb hb=>by
 rcases I.ok.vt with e | ⟨e,hf⟩
 ·rw[e]at hb;exact dB _ hb
 ·rw[e]at hb;unfold x5 at hb;rw[xB,hf]at hb;exact hb
theorem Inv.pf(I:Inv X aa σ H s):∀b∈x5 X.stack,H b=none:=λb hb=>by
 rcases cq.mp (I.pe b hb)with e | hb
 ·rw[e];exact I.free
 ·obtain⟨_,o,ho,_⟩:=I.ok.j6.mem hb;exact I.base.free b o ho (I.ok.F2 b hb) λz=>I.ok.x8 b z hb
theorem Inv.step{g':Array GenState}{t':Nat}{d':Drawn}{ch:List Addr}(I:Inv X aa σ H s)(CJ:∀b∈ch,(b∈X.ex\/X.dr.heap.objs.size<=b)/\b≠X.env.locals/\(∀x c,X.env.cells.lookup x=some c->c≠b)/\∀p∈X.pn++aa,p.1≠b)(keep:∀b o,b≠X.env.locals->b∉X.fs->b∉ch->s.heap.get? b=some o->H b=none->h'.get? b=some o)(slot:∀b o,b≠X.env.locals->b∈X.fs->b∉ch->s.heap.get? b=some o->H b=none->∃sl,h'.get? b=some {o with slots:=sl})(free:∀b o,b∉ch->s.heap.get? b=some o->H b=none->H' b=none)(there:∀b o,b∉ch->s.heap.get? b=some o->∃o',h'.get? b=some o')(fQ:∀b xs,H b=some (.tup xs)->H' b=some (.tup xs))(nk:∀b o u,H b=some (.gA o u)->H' b=some (.gA o u))(pb:∀b ps,H b=some (.HE ps)->∃lg,H' b=some (.HE (ps++lg)))(ns:∀m,s.heap.Ns X.env.locals m->h'.Ns X.env.locals m)(bc:iF X.prog X.w H' h')(hg:AllBare g'):Inv X aa σ H' {s with heap:=h',gens:=g',drawn:=d',toks:=t'}:=by
 have K_:∀b o,X.dr.heap.get? b=some o->b≠X.env.locals:=λb o e=>eW (ft (bE e) I.ok.above)
 have PZ:∀b o,X.dr.heap.get? b=some o->b∉X.ex->b∉ch:=λb o e hx hb=>by
  rcases(CJ b hb).1 with z | z
  ·exact hx z
  ·exact absurd (ft (bE e) z) (lN _)
 have cellK:∀x c,X.env.cells.lookup x=some c->∀v,s.heap.IsCell c v->h'.IsCell c v:=λx c e v ⟨o,ho,hd⟩=>by
  have Mm:c∉ch:=λz=>(CJ c z).2.2.1 x c e rfl;by_cases hc:c∈X.fs
  ·obtain⟨sl,q⟩:=slot c o (I.Dl x c e) hc Mm ho (I.fR x c e);exact⟨_,q,hd⟩
  ·exact⟨o,keep c o (I.Dl x c e) hc Mm ho (I.fR x c e),hd⟩
 refine⟨I.ok,I.os,hg,⟨λb o e n hb hx=>?_,λb o e n hb hx=>?_,λb o e n hx=>?_,λb o e hx=>?_,λb xs e=>fQ b xs (I.base.fQ b xs e),λb o xs e=>nk b o xs (I.base.nk b o xs e),λb ps e=>?_⟩,?_,λx c e=>?_,?_,λx c e=>?_,λp hp=>?_,bc,I.len⟩
 ·exact keep b o (K_ b o e) hb (PZ b o e hx) (I.base.keep b o e n hb hx) (I.base.free b o e n hx)
 ·obtain⟨sl,e1⟩:=I.base.slot b o e n hb hx;obtain⟨Rj,e2⟩:=slot b _ (K_ b o e) hb (PZ b o e hx) e1 (I.base.free b o e n hx);exact⟨Rj,e2⟩
 ·obtain⟨o',e1⟩:=I.base.there b o e hx;exact free b o' (PZ b o e hx) e1 (I.base.free b o e n hx)
 ·obtain⟨o',e1⟩:=I.base.there b o e hx;exact there b o' (PZ b o e hx) e1
 ·obtain⟨m1,e1⟩:=I.base.pb b ps e;obtain⟨m2,e2⟩:=pb b _ e1;exact⟨m1++m2,by rw[e2,Array.append_assoc]⟩
 ·obtain⟨m,hn,hl⟩:=I.loc;refine⟨m,ns m hn,λi x v e1 e2 e3=>?_⟩;obtain⟨u,r,l⟩:=hl i x v e1 e2 e3;refine⟨u,r,?_⟩;rcases l with l | ⟨k,c,e,z⟩
  ·exact .inl l
  ·exact .inr ⟨k,c,e,cellK x c e _ z⟩
 ·obtain⟨v,z⟩:=I.cell x c e;exact⟨v,cellK x c e v z⟩
 ·obtain⟨m,⟨o,_,_,ho,_⟩,_⟩:=I.loc;exact free _ o (λz=>(CJ _ z).2.1 rfl) ho I.free
 ·obtain⟨v,o,ho,hd⟩:=I.cell x c e;exact free c o (λz=>(CJ c z).2.2.1 x c e rfl) ho (I.fR x c e)
 ·obtain⟨e,n,ne,nf,d⟩:=I.pin p hp;have Mm:p.1∉ch:=λz=>(CJ p.1 z).2.2.2 p hp rfl;exact⟨keep p.1 p.2 ne nf Mm e n,free p.1 p.2 Mm e n,ne,nf,d⟩
theorem Inv.un{t':Nat}(I:Inv X aa σ H s)(u:Un X.fs [] H H' s.heap h')(bc:iF X.prog X.w H' h'):Inv X aa σ H' {s with heap:=h',toks:=t'}:=by
 obtain⟨m,⟨o,es,ep,ho,r⟩,_⟩:=id I.loc;obtain⟨sl,hL⟩:=u.any ho I.free (by simp)
 exact I.step (g':=s.gens) (d':=s.drawn) (ch:=[]) (λ_ z=>nomatch z) (λb o _ hb _ e n=>u.keep b o e n hb (by simp)) (λb o _ hb _ e n=>u.slot b o e n hb (by simp)) (λb o _ e n=>u.free b o e n (by simp)) (λb o _ e=>u.there b o e (by simp)) u.fQ u.nk u.pb (λm' hm=>by
  obtain⟨o',Rk,Rl,zF,r'⟩:=hm;rw[ho]at zF;cases zF;exact⟨_,Rk,Rl,hL,r'⟩) bc I.bare
theorem Inv.call{g':Array GenState}{t':Nat}{d':Drawn}{ch:List Addr}(I:Inv X aa σ H s)(u:Un (x5 X.stack) ch H H' s.heap h')(bc:iF X.prog X.w H' h')(hg:AllBare g')(CJ:∀b∈ch,(b∈X.ex\/X.dr.heap.objs.size<=b)/\b≠X.env.locals/\(∀x c,X.env.cells.lookup x=some c->c≠b)/\∀p∈X.pn++aa,p.1≠b):Inv X aa σ H' {s with heap:=h',gens:=g',drawn:=d',toks:=t'}:=by
 obtain⟨m,⟨o,es,ep,ho,r⟩,_⟩:=id I.loc;obtain⟨sl,hL⟩:=u.any ho I.free λz=>(CJ _ z).2.1 rfl
 exact I.step (ch:=ch) CJ (λb o hL hb hc e n=>u.keep b o e n (λz=>(cq.mp (I.pe b z)).elim hL hb) hc) (λb o _ _ hc e n=>u.any e n hc) (λb o hc e n=>u.free b o e n hc) (λb o hc e=>u.there b o e hc) u.fQ u.nk u.pb (λm' hm=>by
  obtain⟨o',Rk,Rl,zF,r'⟩:=hm;rw[ho]at zF;cases zF;exact⟨_,Rk,Rl,hL,r'⟩) bc hg
theorem Inv.turned{t':Nat}{it:Addr}(I:Inv X aa σ H s)(k:∀b o,b≠it->s.heap.get? b=some o->h'.get? b=some o)(hn:H it=none)(hL:it≠X.env.locals)(h1:it∈X.ex\/X.dr.heap.objs.size<=it)(h2:∀x c,X.env.cells.lookup x=some c->c≠it)(h3:∀p∈X.pn++aa,p.1≠it):Inv X aa σ H {s with heap:=h',toks:=t'}:=by
 have Mn:∀b u,H b=some u->b≠it:=λb u e z=>by rw[z,hn]at e;cases e
 refine I.step (g':=s.gens) (d':=s.drawn) (ch:=[it]) (λb hb=>?_) (λb o _ _ hc e _=>k b o (λz=>hc (by simp[z])) e) (λb o _ _ hc e _=>⟨o.slots,k b o (λz=>hc (by simp[z])) e⟩) (λ_ _ _ _ n=>n)
  (λb o hc e=>⟨o,k b o (λz=>hc (by simp[z])) e⟩) (λ_ _ e=>e) (λ_ _ _ e=>e) (λb ps e=>⟨#[],by rw[e];simp⟩) (λm hm=>?_) (λb u e=>?_) I.bare
 ·have e:b=it:=by simpa using hb
  subst e;exact⟨h1,hL,h2,h3⟩
 ·obtain⟨o,es,ep,ho,r⟩:=hm;exact⟨o,es,ep,k _ o (dq hL) ho,r⟩
 ·refine(I.bc b u e).nj (λc v hc q=>k c v ?_ q) (λ_ q=>q) λ_ _ q=>q;rcases hc with z | z
  ·rw[z];exact Mn b u e
  ·exact Mn c _ z
theorem Inv.tok(I:Inv X aa σ H s)(t:Nat):Inv X aa σ H {s with toks:=t}:=I.un (h':=s.heap) (t':=t) Un.refl I.bc
theorem Inv.kept{t':Nat}(I:Inv X aa σ H s)(k:∀b u,s.heap.get? b=some u->h'.get? b=some u):Inv X aa σ H {s with heap:=h',toks:=t'}:=I.un (Un.kept k) (I.bc.kept k)
theorem Inv.laid{a:Addr}{o:HO}{t':Nat}(I:Inv X aa σ H s)(k:∀b u,s.heap.get? b=some u->h'.get? b=some u)(hp:s.heap.objs.size<=a)(new:ba X.prog X.w (a_ H a o) h' a o):Inv X aa σ (a_ H a o) {s with heap:=h',toks:=t'}:=I.un (Un.laid k hp (I.bc.fresh hp)) (I.bc.laid k hp new)
theorem Inv.write{x e:Addr}{o:HO}{t':Nat}(I:Inv X aa σ H s)(mu:Mh (H x))(he:e=x\/H e=some (.own x))(k:∀b u,b≠e->s.heap.get? b=some u->h'.get? b=some u)(K9:∃u,h'.get? e=some u)(new:ba X.prog X.w (a_ H x o) h' x o):Inv X aa σ (a_ H x o) {s with heap:=h',toks:=t'}:=I.un (Un.write mu he k K9) (I.bc.write mu he k K9 new)
theorem Inv.ph{F3:List (Addr×Obj)}(I:Inv X aa σ H s)(h:∀p∈F3,s.heap.get? p.1=some p.2/\H p.1=none/\p.1≠X.env.locals/\p.1∉X.fs/\∀v,p.2.data≠.cell v):Inv X F3 σ H s :=
 ⟨I.ok,I.os,I.bare,I.base,I.loc,I.cell,I.free,I.fR,λp hp=>(gO.mp hp).elim (λz=>I.pin p (oS _ z)) (h p),I.bc,I.len⟩
theorem lP{N:List Str}(hN:N.Nodup){i j:Nat}{x:Str}(a:N[i]?=some x)(b:N[j]?=some x):i=j:=by
 obtain⟨h1,e1⟩:=d4.mp a;obtain⟨h2,e2⟩:=d4.mp b;exact(List.getElem_inj hN).mp (e1.trans e2.symm)
theorem x9{M:Model}{A:Around}{E:Value->Shared->Prop}{i:Nat}{x:Str}{v:V}{u:Value}{Q:Unit->Shared->Prop}(I:Inv X aa σ H s)(hN:X.N.Nodup)(hi:X.N[i]?=some x)(hx:Loc X.env.scope x)(r:RelV v u)(h:∀s',Inv X aa (σ.set i (some v)) H s'->(∃a,Heap.SameBut a s.heap s'.heap/\(a=X.env.locals\/X.env.cells.lookup x=some a))->Q () s')(hf:X.fn x=true\/X.env.scope.names.lookup x=some .local:=by first | exact .inl rfl | exact .inr rfl | assumption):wpAny M A (storeName X.env x u) Q E s:=by
 obtain⟨m,hn,hl⟩:=id I.loc;have HH:(X.env.scope.kind == .class||(X.env.scope.kind == .module&&X.env.locals != X.env.globals))=false:=by rw[I.ok.kind];rfl
 have Mo:i<σ.length:=by rw[I.len];exact(d4.mp hi).1
 have Dl:=I.Dl
 have tracked:∀{a:Addr}{h':Heap},(∃o,s.heap.get? a=some o/\H a=none)->Heap.SameBut a s.heap h'->iF X.prog X.w H h':=λ{a h'} ha hs b ob e=>by
  obtain⟨_,_,rp⟩:=ha;refine(I.bc b ob e).nj (λc w' hc q=>(hs.2 c ?_).trans q) (λ_ q=>q) λ_ _ q=>q;rintro rfl;rcases hc with rfl | hc
  ·rw[rp]at e;cases e
  ·rw[rp]at hc;cases hc
 rcases hx with hk | hk
 ·refine wpAny_storeName_local hk hn (λh' Rm hs=>?_) HH;obtain⟨oL,_,_,V7,_⟩:=id hn;refine h _ ⟨I.ok,I.os,I.bare,⟨λb o e n hb hx=>?_,λb o e n hb hx=>?_,I.base.free,λb o e hx=>?_,I.base.fQ,I.base.nk,I.base.pb⟩,⟨_,Rm,λj y v' e1 e2 e3=>?_⟩,λy c e=>?_,I.free,I.fR,λp hp=>?_,tracked ⟨oL,V7,I.free⟩ hs,by simpa using I.len⟩ ⟨_,hs,.inl rfl⟩
  ·exact(hs.2 b (eW (ft (bE e) I.ok.above))).trans (I.base.keep b o e n hb hx)
  ·obtain⟨sl,e1⟩:=I.base.slot b o e n hb hx;exact⟨sl,(hs.2 b (eW (ft (bE e) I.ok.above))).trans e1⟩
  ·obtain⟨o',e1⟩:=I.base.there b o e hx;exact⟨o',(hs.2 b (eW (ft (bE e) I.ok.above))).trans e1⟩
  ·by_cases hj:j=i
   ·subst hj;rw[hi]at e1;cases e1;rw[tW Mo]at e2;cases e2;exact⟨u,r,.inl ⟨hk,by simp⟩⟩
   ·rw[lL (dq hj)]at e2;obtain⟨u',r',q⟩:=hl j y v' e1 e2 e3;refine⟨u',r',?_⟩;rcases q with⟨k,e⟩|⟨k,c,e,z⟩
    ·refine .inl ⟨k,?_⟩;have:y≠x:=λe=>hj (lP hN e1 (e▸hi));simp[this,e]
    ·exact .inr ⟨k,c,e,z.sameBut hs (Dl y c e)⟩
  ·obtain⟨w',z⟩:=I.cell y c e;exact⟨w',z.sameBut hs (Dl y c e)⟩
  ·obtain⟨e,n,ne,nf,d⟩:=I.pin p hp;exact⟨(hs.2 p.1 ne).trans e,n,ne,nf,d⟩
 ·have Rn:X.fn x=true:=by
   rcases hf with z | z
   ·exact z
   ·rw[z]at hk;cases hk
  obtain⟨c,hc⟩:=I.ok.has x (.inl hk);obtain⟨w',z⟩:=I.cell x c hc;refine wpAny_storeName_cell I.ok.kind hk hc z (λh' y8 hs=>?_);obtain⟨oc,UN,Ro⟩:=id z;refine h {s with heap:=h'} ⟨I.ok,I.os,I.bare,⟨λb o e n hb hx=>?_,λb o e n hb hx=>?_,I.base.free,λb o e hx=>?_,I.base.fQ,I.base.nk,I.base.pb⟩,⟨m,hn.sameBut hs (dq (Dl x c hc)),λj y v' e1 e2 e3=>?_⟩,λy c' e=>?_,I.free,I.fR,λp hp=>?_,tracked ⟨oc,UN,I.fR x c hc⟩ hs,by simpa using I.len⟩ ⟨c,hs,.inr hc⟩
  ·exact(hs.2 b (eW (ft (bE e) (I.ok.F1 x c Rn hc)))).trans (I.base.keep b o e n hb hx)
  ·obtain⟨sl,e1⟩:=I.base.slot b o e n hb hx;exact⟨sl,(hs.2 b (eW (ft (bE e) (I.ok.F1 x c Rn hc)))).trans e1⟩
  ·obtain⟨o',e1⟩:=I.base.there b o e hx;exact⟨o',(hs.2 b (eW (ft (bE e) (I.ok.F1 x c Rn hc)))).trans e1⟩
  ·by_cases hj:j=i
   ·subst hj;rw[hi]at e1;cases e1;rw[tW Mo]at e2;cases e2;exact⟨u,r,.inr ⟨.inl hk,c,hc,y8⟩⟩
   ·rw[lL (dq hj)]at e2;obtain⟨u',r',q⟩:=hl j y v' e1 e2 e3;refine⟨u',r',?_⟩;rcases q with q | ⟨k,c',e,z'⟩
    ·exact .inl q
    ·refine .inr ⟨k,c',e,z'.sameBut hs ?_⟩;rintro rfl;exact hj (lP hN e1 (I.ok.inj _ _ _ e hc▸hi))
  ·by_cases UO:c'=c
   ·subst UO;exact⟨_,y8⟩
   ·obtain⟨w2,z2⟩:=I.cell y c' e;exact⟨w2,z2.sameBut hs UO⟩
  ·obtain⟨e,n,ne,nf,d⟩:=I.pin p hp;refine⟨(hs.2 p.1 ?_).trans e,n,ne,nf,d⟩;intro q;rw[q,UN]at e;have q':oc=p.2:=cu e;exact d w' (by rw[<- q'];exact Ro)
theorem jl{M:Model}{A:Around}{E:Value->Shared->Prop}{i:Nat}{x:Str}{v:V}{u:Value}{Q:Unit->Shared->Prop}(I:Inv X aa σ H s)(hN:X.N.Nodup)(hi:X.N[i]?=some x)(hx:Loc X.env.scope x)(r:RelV v u)(h:∀s',Inv X aa (σ.set i (some v)) H s'->Q () s')(hf:X.fn x=true\/X.env.scope.names.lookup x=some .local:=by first | exact .inl rfl | exact .inr rfl | assumption):wpAny M A (storeName X.env x u) Q E s :=
 x9 I hN hi hx r (λs' I' _=>h s' I') hf
theorem Inv.zG{s':Shared}{ch:List Addr}(I:Inv X aa σ H s)(ho:s'.os=s.os)(u:Un (x5 X.stack) ch H H' s.heap s'.heap)(bc:iF X.prog X.w H' s'.heap)(hg:AllBare s'.gens)(CJ:∀b∈ch,(b∈X.ex\/X.dr.heap.objs.size<=b)/\b≠X.env.locals/\(∀x c,X.env.cells.lookup x=some c->c≠b)/\∀p∈X.pn++aa,p.1≠b):Inv X aa σ H' s':=by
 obtain⟨h',g',d',t',o'⟩:=s';have e:o'=s.os:=ho;subst e;exact I.call (g':=g') (t':=t') (d':=d') u bc hg CJ
end
abbrev XK:=Value->Option Addr->Hp->Prop
abbrev St:=List (Option V)
abbrev VK:=V->Hp->Prop
abbrev TE:=St->Hp->VK->Prop
abbrev TT:=St->Hp->(Bool->Hp->Prop)->Prop
abbrev TA:=St->Hp->(List V->Hp->Prop)->Prop
structure jm where
 nx:St->Hp->Prop
 rt:VK
 bk:St->Hp->Prop:=λ_ _=>False
 ct:St->Hp->Prop:=λ_ _=>False
abbrev TS:=jm->St->Hp->Prop
def EP(X:Cx)(aa:List (Addr×Obj))(σ:St)(Q:VK)(u:Value)(s':Shared):Prop:=∃v H',Inv X aa σ H' s'/\RelV v u/\Q v H'
noncomputable def TP(X:Cx)(aa:List (Addr×Obj))(σ:St)(Q:Bool->Hp->Prop)(b:Bool)(s':Shared):Prop:=∃H',Inv X aa σ H' s'/\Q b H'
noncomputable def AP(X:Cx)(aa:List (Addr×Obj))(σ:St)(Q:List V->Hp->Prop)(us:List Value)(s':Shared):Prop:=∃vs H',Inv X aa σ H' s'/\aO vs us/\Q vs H'
def SP(X:Cx)(aa:List (Addr×Obj))(D:jm)(f:Flow)(s':Shared):Prop :=
 match f with
 | .next=>∃cD H',Inv X aa cD H' s'/\D.nx cD H'
 | .brk=>∃cD H',Inv X aa cD H' s'/\D.bk cD H'
 | .cont=>∃cD H',Inv X aa cD H' s'/\D.ct cD H'
 | .ret u=>∃v cD H',Inv X aa cD H' s'/\RelV v u/\D.rt v H'
def PE(X:Cx)(e:Expr)(t:TE):Prop :=
 ∀(aa:List (Addr×Obj))(s:Shared)(σ:St)(H:Hp)(Q:VK),Inv X aa σ H s->t σ H Q->wpAny (model X.prog X.w) X.A (eval e X.env) (EP X aa σ Q) X.xe s
def PT(X:Cx)(e:Expr)(t:TT):Prop :=
 ∀(aa:List (Addr×Obj))(s:Shared)(σ:St)(H:Hp)(Q:Bool->Hp->Prop),Inv X aa σ H s->t σ H Q->wpAny (model X.prog X.w) X.A (isTrue e X.env (eval e X.env)) (TP X aa σ Q) X.xe s
def PW(X:Cx)(e:Expr)(t:TT):Prop :=
 ∀(lQ:Sem Value)(aa:List (Addr×Obj))(s:Shared)(σ:St)(H:Hp)(Q:Bool->Hp->Prop),Inv X aa σ H s->t σ H Q->wpAny (model X.prog X.w) X.A (isTrue e X.env lQ) (TP X aa σ Q) X.xe s
theorem PW.pt{X:Cx}{e:Expr}{t:TT}(h:PW X e t):PT X e t:=h _
def PA(X:Cx)(es:List Expr)(t:TA):Prop :=
 ∀(pos:Pos)(aa:List (Addr×Obj))(s:Shared)(σ:St)(H:Hp)(Q:List V->Hp->Prop),Inv X aa σ H s->t σ H Q->wpAny (model X.prog X.w) X.A (spliced (backTo pos (starEach es X.env))) (AP X aa σ Q) X.xe s
def PS(X:Cx)(st:Stmt)(t:TS):Prop :=
 ∀(aa:List (Addr×Obj))(s:Shared)(σ:St)(H:Hp)(D:jm),Inv X aa σ H s->t D σ H->wpAny (model X.prog X.w) X.A (exec st X.env) (SP X aa D) X.xe s
def nP(X:Cx)(st:List Stmt)(t:TS):Prop :=
 ∀(aa:List (Addr×Obj))(s:Shared)(σ:St)(H:Hp)(D:jm),Inv X aa σ H s->t D σ H->wpAny (model X.prog X.w) X.A (execs st X.env) (SP X aa D) X.xe s
theorem bV{α:Type}{t:Sem α}{Q Q':α->Shared->Prop}{M:Model}{A:Around}{E:Value->Shared->Prop}{s:Shared}(h:wpAny M A t Q E s)(hQ:∀a s,Q a s->Q' a s):wpAny M A t Q' E s:=j4 h hQ λ_ _ x=>x
section
variable {X:Cx}
noncomputable def Rp(i:Nat):TE:=λσ H Q=>∃v,σ[i]?=some (some v)/\Q v H
def tC(v:V):TE:=λ_ H Q=>Q v H
theorem lR{i:Nat}{x:Str}{pos:Pos}(hN:X.N[i]?=some x)(hv:PX X.env.scope x) (hd:(x==("__debug__" : Str))=false:=by decide) (CK:(x==("__classdict__" : Str))=false:=by decide):PE X (.Name x pos) (Rp i):=by
 intro aa s σ H Q I h;obtain⟨v,e,h⟩:=h;obtain⟨m,hn,hl⟩:=I.loc;obtain⟨u,r,l⟩:=hl i x v hN e hv;have eY:EP X aa σ Q u s:=⟨v,H,I,r,h⟩;rcases l with⟨hk,hm⟩|⟨hk,c,hc,vA⟩
 ·exact wpAny_Name (wpAny_loadName_local I.ok.kind hk hn hm eY) hd
 ·rcases hk with hk | hk
  ·exact wpAny_Name (wpAny_loadName_cell I.ok.kind hk hc vA eY) hd
  ·exact wpAny_Name (wpAny_loadName_free I.ok.kind hk hc vA eY CK) hd
theorem zH {i j pos}:PE X (.Constant (.int i) j pos) (tC (.int i)):=λ_ _ _ H _ I h=>wpAny_Constant_int ⟨.int i,H,I.tok _,⟨_,rfl⟩,h⟩
theorem F4 {b j pos}:PE X (.Constant (.bool b) j pos) (tC (.bl b)):=λ_ _ _ H _ I h=>Constant_bool ⟨.bl b,H,I,rfl,h⟩
theorem HI {j pos}:PE X (.Constant .none j pos) (tC .aK):=λ_ _ _ H _ I h=>Constant_none ⟨.aK,H,I,rfl,h⟩
theorem zI {x j pos}:PE X (.Constant (.str x) j pos) (tC (.str x)):=λ_ _ _ H _ I h=>Calls.Constant_str ⟨.str x,H,I.tok _,⟨_,rfl⟩,h⟩
noncomputable def Gl(X:Cx)(x:Str):Prop:=X.env.kindOf x=some .globalImplicit
theorem ig{E:Value->Shared->Prop}{aa:List (Addr×Obj)}{s:Shared}{σ:St}{H:Hp}{x:Str}{u:Value}{pos:Pos}{Q:Value->Shared->Prop}(I:Inv X aa σ H s)(hg:Gl X x)(hm:X.mg x=some u)(h:Q u s) (hd:(x==("__debug__" : Str))=false:=by decide):wpAny (model X.prog X.w) X.A (eval (.Name x pos) X.env) Q E s :=
 Calls.Name_function_global I.ok.kind hg (Calls.loadGlobal_global (by rw[I.ok.glob];exact I.mod.glob.keeps I.bk) hm h) hd
theorem lS{E:Value->Shared->Prop}{aa:List (Addr×Obj)}{s:Shared}{σ:St}{H:Hp}{x:Str}{u:Value}{pos:Pos}{Q:Value->Shared->Prop}(I:Inv X aa σ H s)(hg:Gl X x)(hm:X.mg x=none)(hv:bootBuiltins x=some u)(h:Q u s) (hn:x≠ "__name__" := by decide) (hd:(x==("__debug__" : Str))=false:=by decide):wpAny (model X.prog X.w) X.A (eval (.Name x pos) X.env) Q E s:=by
 obtain⟨mb,h1,h2⟩:=I.mod.blt;exact Calls.Name_function_global I.ok.kind hg (Calls.loadGlobal_builtin (by rw[I.ok.glob];exact I.mod.glob.keeps I.bk) hm (by rw[I.ok.blt];exact h1.keeps I.bk) ((h2 x hn).trans hv) h) hd
theorem pj{x:Str}{v:V}{u:Value}{pos:Pos}(hg:Gl X x)(hm:X.mg x=some u)(r:RelV v u) (hd:(x==("__debug__" : Str))=false:=by decide):PE X (.Name x pos) (tC v) :=
 λ_ _ _ H _ I h=>ig I hg hm ⟨v,H,I,r,h⟩ hd
theorem vB{x:Str}{v:V}{u:Value}{pos:Pos}(hg:Gl X x)(hm:X.mg x=none)(hv:bootBuiltins x=some u)(r:RelV v u) (hn:x≠ "__name__" := by decide) (hd:(x==("__debug__" : Str))=false:=by decide):PE X (.Name x pos) (tC v) :=
 λ_ _ _ H _ I h=>lS I hg hm hv ⟨v,H,I,r,h⟩ hn hd
variable {a b:Expr} {ta tb:TE} {pos:Pos}
variable {tA P0:TT} {gP:List Expr}
noncomputable def Rq(t u:TT):TT:=λσ H Q=>t σ H λc H1=>if c=true then u σ H1 Q else Q false H1
noncomputable def V8(t u:TT):TT:=λσ H Q=>t σ H λc H1=>if c=true then Q true H1 else u σ H1 Q
def Rr(t:TT):TT:=λσ H Q=>t σ H λc H1=>Q (!c) H1
theorem Dm(ha:PT X a tA):PW X (.BoolOp .And [a] pos) tA:=by
 intro wh aa s σ H Q I h;refine isTrue_and (bV (ha aa s σ H Q I h) λc s1 e=>?_)
 cases c with
 | true=>exact isTrue_and_nil e
 | false=>exact e
theorem HJ(ha:PT X a tA):PW X (.BoolOp .Or [a] pos) tA:=by
 intro wh aa s σ H Q I h;refine isTrue_or (bV (ha aa s σ H Q I h) λc s1 e=>?_)
 cases c with
 | false=>exact isTrue_or_nil e
 | true=>exact e
theorem HK(ha:PT X a tA)(hb:PW X (.BoolOp .And (b::gP) pos) P0):PW X (.BoolOp .And (a::b::gP) pos) (Rq tA P0):=by
 intro wh aa s σ H Q I h;refine isTrue_and (bV (ha aa s σ H _ I h) ?_);rintro c s1 ⟨H1,I1,q1⟩
 cases c with
 | true=>exact hb wh aa s1 σ H1 Q I1 q1
 | false=>exact⟨H1,I1,q1⟩
theorem Mp(ha:PT X a tA)(hb:PW X (.BoolOp .Or (b::gP) pos) P0):PW X (.BoolOp .Or (a::b::gP) pos) (V8 tA P0):=by
 intro wh aa s σ H Q I h;refine isTrue_or (bV (ha aa s σ H _ I h) ?_);rintro c s1 ⟨H1,I1,q1⟩
 cases c with
 | true=>exact⟨H1,I1,q1⟩
 | false=>exact hb wh aa s1 σ H1 Q I1 q1
theorem HL(ha:PT X a tA):PT X (.UnaryOp .Not a pos) (Rr tA):=by
 intro aa s σ H Q I h;exact isTrue_not (ha aa s σ H (λc H1=>Q (!c) H1) I h)
noncomputable def Mq(ta tb:TE):TE:=λσ H Q=>ta σ H λx H1=>∃c,x=.bl c/\if c=true then tb σ H1 Q else Q (.bl false) H1
noncomputable def Rt(ta tb:TE):TE:=λσ H Q=>ta σ H λx H1=>∃c,x=.bl c/\if c=true then Q (.bl true) H1 else tb σ H1 Q
noncomputable def Mr(ta:TE):TE:=λσ H Q=>ta σ H λx H1=>∃c,x=.bl c/\Q (.bl (!c)) H1
theorem zJ {op} {t:TE} (h:PE X a t):PE X (.BoolOp op [a] pos) t:=λaa s σ H Q I hw=>BoolOp_one (h aa s σ H Q I hw)
theorem HM(ha:PE X a ta)(hb:PE X (.BoolOp .And (b::gP) pos) tb):PE X (.BoolOp .And (a::b::gP) pos) (Mq ta tb):=by
 intro aa s σ H Q I h;refine BoolOp_and (bV (ha aa s σ H _ I h) ?_);rintro v s1 ⟨x,H1,I1,r1,q1⟩;obtain⟨c,rfl,q1⟩:=q1;cases r1;refine oU ?_
 cases c with
 | true=>exact hb aa s1 σ H1 Q I1 q1
 | false=>exact⟨.bl false,H1,I1,rfl,q1⟩
theorem Ms(ha:PE X a ta)(hb:PE X (.BoolOp .Or (b::gP) pos) tb):PE X (.BoolOp .Or (a::b::gP) pos) (Rt ta tb):=by
 intro aa s σ H Q I h;refine BoolOp_or (bV (ha aa s σ H _ I h) ?_);rintro v s1 ⟨x,H1,I1,r1,q1⟩;obtain⟨c,rfl,q1⟩:=q1;cases r1;refine oU ?_
 cases c with
 | false=>exact hb aa s1 σ H1 Q I1 q1
 | true=>exact⟨.bl true,H1,I1,rfl,q1⟩
theorem HN(ha:PE X a ta):PE X (.UnaryOp .Not a pos) (Mr ta):=by
 intro aa s σ H Q I h;refine UnaryOp_ (bV (ha aa s σ H _ I h) ?_);rintro v s1 ⟨x,H1,I1,r1,q1⟩;obtain⟨c,rfl,q1⟩:=q1;cases r1;exact not_of (oU ⟨.bl (!c),H1,I1,rfl,q1⟩)
end
def fv(K:PySem.W.Frag)(H:Hp)(a:Addr)(xs:List V):Prop :=
 Rd H a (.lst xs) \/
  ∃(o:Obj) (aA:Array Value) (n:Nat),K.lookup a=some o/\o.cls=.type "list" /\ o.dict=none/\o.data=.seq aA n/\aA.size<=sizeLine/\aO xs aA.toList
def fS(K:PySem.W.Frag)(H:Hp)(a:Addr)(xs:List V):Prop :=
 Rd H a (.tup xs) \/
  ∃(o:Obj) (aA:Array Value) (n:Nat),K.lookup a=some o/\o.cls=.type "tuple" /\ o.data=.seq aA n/\aA.size<=sizeLine/\aO xs aA.toList
noncomputable def Ru:Value->Option V
 | .none=>some .aK
 | .bool b=>some (.bl b)
 | .int i _=>some (.int i)
 | .str x _=>some (.str x)
 | .bytes b _=>some (.F0 b)
 | .float b _=>some (.Dj b)
 | .ref a=>some (.ref a)
 | .type n=>some (.ty n)
 | _=>none
theorem RelV.abs{x:V}{u:Value}(r:RelV x u):Ru u=some x:=by
 cases x with
 | aK=>cases r;rfl
 | bl _=>cases r;rfl
 | int _=>obtain⟨t,rfl⟩:=r;rfl
 | str _=>obtain⟨t,rfl⟩:=r;rfl
 | F0 _=>obtain⟨t,rfl⟩:=r;rfl
 | Dj _=>obtain⟨t,rfl⟩:=r;rfl
 | ref _=>cases r;rfl
 | ty _=>cases r;rfl
theorem RelV.inj{x y:V}{u:Value}(r:RelV x u)(q:RelV y u):x=y:=cu (r.abs.symm.trans q.abs)
theorem aO.inj:∀{xs ys:List V}{us:List Value},aO xs us->aO ys us->xs=ys
 | _,_,_,.nil,.nil=>rfl
 | _,_,_,.cons r t,.cons r' t'=>by rw[r.inj r',aO.inj t t']
section
variable {X:Cx} {aa:List (Addr×Obj)} {σ:St} {H:Hp} {s:Shared} {a:Addr} {xs ys:List V}
theorem fv.of{K:PySem.W.Frag}(h:H a=some (.lst xs)):fv K H a xs:=.inl (.inl h)
theorem fS.of{K:PySem.W.Frag}(h:H a=some (.tup xs)):fS K H a xs:=.inl (.inl h)
theorem Inv.list(I:Inv X aa σ H s)(h:fv X.K H a xs):∃aA:List Value,aO xs aA/\PlainL s.heap a aA.toArray/\xs.length<=sizeLine:=by
 rcases h with h | ⟨o,aA,n,hk,hc,hd,hs,hz,r⟩
 ·obtain⟨z,aA,n,r,e⟩:=h.ok I.bc;exact⟨aA,r,⟨_,n,e,rfl,rfl,rfl⟩,z⟩
 ·refine⟨aA.toList,r,⟨o,n,I.iU a o hk,hc,hd,by simpa using hs⟩,?_⟩;have e:=r.length;simp only[Hn]at e;omega
theorem Inv.tuple(I:Inv X aa σ H s)(h:fS X.K H a xs):∃aA:List Value,aO xs aA/\IsTup s.heap a aA.toArray/\xs.length<=sizeLine:=by
 rcases h with h | ⟨o,aA,n,hk,hc,hs,hz,r⟩
 ·obtain⟨z,aA,r,p⟩:=h.ok I.bc;exact⟨aA,r,p,z⟩
 ·refine⟨aA.toList,r,⟨o,I.iU a o hk,hc,n,by simpa using hs⟩,?_⟩;have e:=r.length;simp only[Hn]at e;omega
theorem Inv.rq(I:Inv X aa σ H s)(h:fv X.K H a xs)(h':fv X.K H a ys):xs=ys:=by
 obtain⟨aA,r,⟨o,n,e,_,_,d⟩,_⟩:=I.list h;obtain⟨its',r',⟨o',n',e',_,_,d'⟩,_⟩:=I.list h';rw[e]at e';cases e';rw[d]at d';injection d' with d1 _;have:aA=its':=by simpa using oZ Array.toList d1
 subst this;exact r.inj r'
theorem Inv.nQ(I:Inv X aa σ H s)(h:fS X.K H a xs)(h':fS X.K H a ys):xs=ys:=by
 obtain⟨aA,r,⟨o,e,_,n,d⟩,_⟩:=I.tuple h;obtain⟨its',r',⟨o',e',_,n',d'⟩,_⟩:=I.tuple h';rw[e]at e';cases e';rw[d]at d';injection d' with d1 _;have:aA=its':=by simpa using oZ Array.toList d1
 subst this;exact r.inj r'
end
abbrev Cx.lU(X:Cx)(E:Value->Shared->Prop):Cx:={X with xe:=E}
abbrev Cx.Dn(X:Cx):Cx:=X.lU λ_ _=>False
theorem Cx.Ok.lU{X:Cx}(ok:X.Ok)(E:Value->Shared->Prop):(X.lU E).Ok :=
 ⟨ok.mod,ok.kind,ok.glob,ok.blt,ok.above,ok.inj,ok.has,ok.F1,ok.hd,ok.frames,ok.vt,ok.PY,ok.bs,ok.CI,ok.x6,ok.x8,ok.j6,ok.F2⟩
theorem Cx.Ok.gi{X:Cx}{E:Value->Shared->Prop}(ok:(X.lU E).Ok):X.Ok :=
 ⟨ok.mod,ok.kind,ok.glob,ok.blt,ok.above,ok.inj,ok.has,ok.F1,ok.hd,ok.frames,ok.vt,ok.PY,ok.bs,ok.CI,ok.x6,ok.x8,ok.j6,ok.F2⟩
section
variable {X:Cx} {aa:List (Addr×Obj)} {σ:St} {H:Hp} {s:Shared} {E:Value->Shared->Prop}
theorem Inv.lU(I:Inv X aa σ H s)(E:Value->Shared->Prop):Inv (X.lU E) aa σ H s:=⟨I.ok.lU E,I.os,I.bare,I.base,I.loc,I.cell,I.free,I.fR,I.pin,I.bc,I.len⟩
theorem Inv.gi(I:Inv (X.lU E) aa σ H s):Inv X aa σ H s:=⟨I.ok.gi,I.os,I.bare,I.base,I.loc,I.cell,I.free,I.fR,I.pin,I.bc,I.len⟩
theorem SP.gi{D:jm}{f:Flow}{s':Shared}(h:SP (X.lU E) aa D f s'):SP X aa D f s':=by
 cases f with
 | next=>obtain⟨cD,H',I,q⟩:=h;exact⟨cD,H',I.gi,q⟩
 | brk=>obtain⟨cD,H',I,q⟩:=h;exact⟨cD,H',I.gi,q⟩
 | cont=>obtain⟨cD,H',I,q⟩:=h;exact⟨cD,H',I.gi,q⟩
 | ret u=>obtain⟨v,cD,H',I,r,q⟩:=h;exact⟨v,cD,H',I.gi,r,q⟩
theorem nP.Dn{st:List Stmt}{t:TS}(h:nP X.Dn st t):nP X st t:=λaa s σ H D I hw =>
 j4 (h aa s σ H D (I.lU _) hw) (λ_ _ q=>q.gi) λ_ _ z=>False.elim z
end
section
variable {X:Cx} {st:Stmt} {gP:List Stmt} {t u:TS} {e:Expr} {te:TE} {pos:Pos}
def F5:TS:=λD σ H=>D.nx σ H
def Mu(t u:TS):TS:=λD σ H=>t {D with nx:=u D} σ H
theorem vC:nP X [] F5:=λ_ _ σ H _ I h=>oX ⟨σ,H,I,h⟩
theorem lV(h1:PS X st t)(h2:nP X gP u):nP X (st::gP) (Mu t u):=by
 intro aa s σ H D I h;refine zu (bV (h1 aa s σ H {D with nx:=u D} I h) λf s1 q=>?_)
 cases f with
 | next =>
  obtain⟨cD,H',I',q⟩:=q;exact h2 aa s1 cD H' D I' q
 | ret v=>exact q
 | brk=>exact q
 | cont=>exact q
theorem Dp(h1:PS X st t):nP X [st] t:=by
 intro aa s σ H D I h;refine zu (bV (h1 aa s σ H D I h) λf s1 q=>?_)
 cases f with
 | next=>exact oX q
 | ret v=>exact q
 | brk=>exact q
 | cont=>exact q
def HP:TS:=λD σ H=>D.bk σ H
def Mx:TS:=λD σ H=>D.ct σ H
theorem vD:PS X (.Pass pos) F5:=λ_ _ σ H _ I h=>wpAny_Pass ⟨σ,H,I,h⟩
theorem zK:PS X (.Break pos) HP:=λ_ _ σ H _ I h=>wpAny_Break ⟨σ,H,I,h⟩
theorem rB:PS X (.Continue pos) Mx:=λ_ _ σ H _ I h=>wpAny_Continue ⟨σ,H,I,h⟩
theorem Inv.quiet{aa:List (Addr×Obj)}{σ:St}{H:Hp}{s:Shared}(I:Inv X aa σ H s):interactive X.env=false:=by simp[interactive,I.ok.kind]
noncomputable def My(te:TE):TS:=λD σ H=>te σ H λ_ H1=>D.nx σ H1
theorem Dq(he:PE X e te)(hs:swapsWith e none pos.line X.env=pure false:=by rfl):PS X (.Expr e pos) (My te):=by
 intro aa s σ H D I h;exact wpAny_Expr_any (bV (he aa s σ H _ I h) λv s1 ⟨x,H1,I1,r1,q1⟩=>⟨σ,H1,I1,q1⟩) I.quiet hs
def Rv(te:TE):TS:=λD σ H=>te σ H D.rt
theorem HQ(he:PE X e te):PS X (.Return (some e) pos) (Rv te):=by
 intro aa s σ H D I h;exact wpAny_Return_some (bV (he aa s σ H _ I h) λv s1 ⟨x,H1,I1,r1,q1⟩=>⟨x,σ,H1,I1,r1,q1⟩)
def Mz:TS:=λD _ H=>D.rt .aK H
theorem Dr:PS X (.Return none pos) Mz:=λ_ _ σ H _ I h=>wpAny_Return_none ⟨.aK,σ,H,I,rfl,h⟩
noncomputable def Rw(c:TT)(t u:TS):TS:=λD σ H=>c σ H λb H1=>if b=true then t D σ H1 else u D σ H1
theorem MB{c:Expr}{a b:List Stmt}{tc:TT}(hc:PT X c tc)(ha:nP X a t)(hb:nP X b u):PS X (.If c a b pos) (Rw tc t u):=by
 intro aa s σ H D I h;refine wpAny_If (bV (hc aa s σ H _ I h) ?_);rintro d s1 ⟨H1,I1,q1⟩
 cases d with
 | true=>exact ha aa s1 σ H1 D I1 q1
 | false=>exact hb aa s1 σ H1 D I1 q1
def HR:TS:=λ_ _ _=>False
theorem zL:PS X st HR:=λ_ _ _ _ _ _ h=>h.elim
end
abbrev TG:=V->St->Hp->(St->Hp->Prop)->Prop
abbrev F6:=List V->St->Hp->(St->Hp->Prop)->Prop
def PG(X:Cx)(j7:Expr)(t:TG):Prop :=
 ∀(aa:List (Addr×Obj))(s:Shared)(σ:St)(H:Hp)(v:V)(u:Value)(Q:St->Hp->Prop),Inv X aa σ H s->RelV v u->t v σ H Q ->
  wpAny (model X.prog X.w) X.A (assign j7 X.env u) (λ_ s'=>∃cD H',Inv X aa cD H' s'/\Q cD H') X.xe s
noncomputable def La(X:Cx)(ts:List Expr)(t:F6):Prop :=
 ∀(aa:List (Addr×Obj))(s:Shared)(σ:St)(H:Hp)(vs:List V)(us:List Value)(Q:St->Hp->Prop),Inv X aa σ H s->aO vs us->t vs σ H Q ->
  wpAny (model X.prog X.w) X.A (assignInOrder ((assignEach ts X.env).map (·.2)) us) (λ_ s'=>∃cD H',Inv X aa cD H' s'/\Q cD H') X.xe s
abbrev Ds:=V->V->V->Hp->(Hp->Prop)->Prop
def Dt(X:Cx)(t:Ds):Prop :=
 ∀(aa:List (Addr×Obj))(s:Shared)(σ:St)(H:Hp)(o i v:V)(ov iv u:Value)(Q:Hp->Prop),Inv X aa σ H s->RelV o ov->RelV i iv->RelV v u->t o i v H Q ->
  wpAny (model X.prog X.w) X.A (setItem ov iv u) (λ_ s'=>∃H',Inv X aa σ H' s'/\Q H') X.xe s
section
variable {X:Cx} {pos:Pos}
def F7(i:Nat):TG:=λv σ H Q=>Q (σ.set i (some v)) H
theorem lz{i:Nat}{x:Str}(hN:X.N.Nodup)(hi:X.N[i]?=some x)(hx:Loc X.env.scope x)(hf:X.fn x=true\/X.env.scope.names.lookup x=some .local:=by first | exact .inl rfl | exact .inr rfl | assumption):PG X (.Name x pos) (F7 i):=by
 intro aa s σ H v u Q I r h;exact wpAny_assign_Name (jl I hN hi hx r (λs' I'=>⟨_,H,I',h⟩) hf)
def MC:F6:=λvs σ H Q=>vs=[]/\Q σ H
noncomputable def F8(t:TG)(u:F6):F6:=λvs σ H Q=>∃v r,vs=v::r/\t v σ H λcD H'=>u r cD H' Q
theorem Du:La X [] MC:=by
 intro aa s σ H vs us Q I r h;obtain⟨e,h⟩:=h;subst e;cases r;exact assignInOrder_nil ⟨σ,H,I,h⟩
theorem zM{e:Expr}{es:List Expr}{t:TG}{u:F6}(h1:PG X e t)(h2:La X es u)(hs:(assignEach (e::es) X.env).map (·.2)=assign e X.env::(assignEach es X.env).map (·.2):=by rfl):La X (e::es) (F8 t u):=by
 intro aa s σ H vs us Q I r h;obtain⟨v,vr,e1,h⟩:=h;subst e1
 cases r with
 | cons r rr =>
  rw[hs];refine assignInOrder_cons (bV (h1 aa s σ H _ _ _ I r h) ?_);rintro _ s1 ⟨UP,H1,I1,q1⟩;exact h2 aa s1 UP H1 _ _ Q I1 rr q1
def Rx(K:PySem.W.Frag)(n:Nat)(t:F6):TG:=λv σ H Q=>∃a xs,v=.ref a/\fS K H a xs/\xs.length=n/\t xs σ H Q
theorem HS{es:List Expr}{k:Nat}{t:F6}{n:Nat}(hc:X.calm=true)(h:La X es t)(hn:(assignEach es X.env).length=n:=by rfl)(fO:(assignEach es X.env).findIdx? (·.1)=none:=by rfl):PG X (.Tuple es k pos) (Rx X.K n t):=by
 intro aa s σ H v u Q I r hw;obtain⟨a,xs,e1,hq,hl,hw⟩:=hw;subst e1;cases r;obtain⟨aA,rv,ht,hz⟩:=I.tuple hq;refine assign_Tuple_tuple (I.ok.hd hc) ht (by simp[hn,<- hl,rv.length]) fO λh' hx=>?_;have I1:Inv X aa σ H {s with heap:=h'}:=I.kept (t':=s.toks) λb o e=>hx b o (eW (bE e)) e;exact h aa _ σ H xs _ Q I1 (by simpa using rv) hw
noncomputable def Ry(to ti:TE)(t:Ds):TG:=λv σ H Q=>to σ H λo H1=>ti σ H1 λi H2=>t o i v H2 λH3=>Q σ H3
theorem zN {o i : Expr} {to ti : TE} {t : Ds} (ho : PE X o to) (hi : PE X i ti) (hs : Dt X t)
    (ha:∀v,assign (.Subscript o i pos) X.env v=(do
      let ov <- holding [v] (eval o X.env)
      let iv <- holding [v,ov] (eval i X.env)
      standAt pos
      holding [v,ov,iv] (setItem ov iv v)
      release [v,ov,iv] []):=by intro _;rfl):PG X (.Subscript o i pos) (Ry to ti t):=by
  intro aa s σ H v u Q I r h;rw[ha];refine aq (nh (bV (ho aa s σ H _ I h) ?_));rintro ov s1 ⟨x,H1,I1,r1,q1⟩;refine aq (nh (bV (hi aa s1 σ H1 _ I1 q1) ?_));rintro iv s2 ⟨y,H2,I2,r2,q2⟩;refine aq (xP (aq (nh (bV (hs aa s2 σ H2 x y v ov iv u _ I2 r1 r2 r q2) ?_))));rintro _ s3 ⟨H3,I3,q3⟩;exact wpAny_release ⟨σ,H3,I3,q3⟩
noncomputable def MD(te:TE)(g:TG):TS:=λD σ H=>te σ H λx H1=>g x σ H1 D.nx
theorem pk{tg e:Expr}{te:TE}{g:TG}(he:PE X e te)(hg:PG X tg g)(hs:swapsWithSole [tg] e pos.line X.env=pure false:=by rfl)(hw:swappedStores [tg] e X.env=pure none:=by rfl)(h1:(assignEach [tg] X.env).map (·.2)=[assign tg X.env]:=by rfl):PS X (.Assign [tg] e pos) (MD te g):=by
 intro aa s σ H D I h;refine wpAny_Assign_stores (bV (he aa s σ H _ I h) ?_) hs hw;rintro v s1 ⟨x,H1,I1,r1,q1⟩;rw[h1];exact bV (hg aa s1 σ H1 x v _ I1 r1 q1) λ_ s2 q=>q
end
structure It where
 go:Nat->Hp->Prop
 Lb:Nat->Hp->V->Hp->Prop
 stop:Nat->Hp->Prop
noncomputable def lh(X:Cx)(aa:List (Addr×Obj))(H:Hp)(b:Addr):Prop :=
 H b=none/\b≠X.env.locals/\b∉X.fs/\(b∈X.ex\/X.dr.heap.objs.size<=b)/\(∀x c,X.env.cells.lookup x=some c->c≠b)/\∀p∈X.pn++aa,p.1≠b
theorem Inv.x_{X:Cx}{aa:List (Addr×Obj)}{σ:St}{H H':Hp}{s:Shared}{b:Addr}(I:Inv X aa σ H s)(hb:s.heap.objs.size<=b)(hn:H' b=none):lh X aa H' b:=by
 refine⟨hn,zC (ft I.lt hb),I.Mk hb,.inr (bJ I.sz hb),λx c e z=>?_,λp hp z=>?_⟩
 ·obtain⟨v,q⟩:=I.cell x c e;exact absurd (ft q.lt (by rw[z];exact hb)) (lN _)
 ·exact absurd (ft (bE (I.pin p hp).1) (by rw[z];exact hb)) (lN _)
structure t7 (P:Program) (w:World) (K:PySem.W.Frag) (tg:Expr) (J:It) (fp:List Addr) (it:Addr) (tn:Nat->Heap->Prop):Prop where
 mem:it∈fp
 obj:∀i h,tn i h->∀b∈fp,∃o,h.get? b=some o/\∀v,o.data≠.cell v
 keep:∀i h h',tn i h->(∀b∈fp,∀o,h.get? b=some o->h'.get? b=some o)->tn i h'
 item:∀(X:Cx),X.prog=P->X.w=w->X.K=K->X.calm=true->∀(i:Nat)(aa:List (Addr×Obj))(s:Shared)(σ:St)(H:Hp)(E:Value->Shared->Prop),Inv X aa σ H s->(∀b∈fp,lh X aa H b)->tn i s.heap->J.go i H ->
  wpAny (model P w) X.A (pyNext (.ref it)) (λr s1=>∃u,r=some u /\
   wpAny (model P w) X.A (letOwnedTupleGo tg (.ref it) u) (λ_ s2=>∃x H',Inv X aa σ H' s2/\RelV x u/\J.Lb i H x H'/\tn (i+1) s2.heap/\∀b∈fp,H' b=none) E s1) E s
 done:∀(X:Cx),X.prog=P->X.w=w->X.K=K->X.calm=true->∀(i:Nat)(aa:List (Addr×Obj))(s:Shared)(σ:St)(H:Hp)(E:Value->Shared->Prop),Inv X aa σ H s->(∀b∈fp,lh X aa H b)->tn i s.heap->J.stop i H ->
  wpAny (model P w) X.A (pyNext (.ref it)) (λr s1=>r=none/\Inv X aa σ H s1) E s
 self:∀(A:Around)(i:Nat)(s:Shared)(Q:Value->Shared->Prop)(E:Value->Shared->Prop),tn i s.heap->Q (.ref it) s->wpAny (model P w) A (pyIter (.ref it)) Q E s
abbrev TI:=St->Hp->(It->Hp->Prop)->Prop
def UQ(X:Cx)(aa:List (Addr×Obj))(σ:St)(tg:Expr)(R:It->Hp->Prop)(P1:Value)(s2:Shared):Prop :=
 ∃(it:Addr) (fp:List Addr) (tn:Nat->Heap->Prop) (J:It) (H':Hp),P1=.ref it/\Inv X aa σ H' s2/\t7 X.prog X.w X.K tg J fp it tn/\tn 0 s2.heap/\(∀b∈fp,lh X aa H' b)/\R J H'
def PI(X:Cx)(tg aH:Expr)(wi:TI):Prop :=
 ∀(aa:List (Addr×Obj))(s:Shared)(σ:St)(H:Hp)(R:It->Hp->Prop),Inv X aa σ H s->wi σ H R ->
  wpAny (model X.prog X.w) X.A (eval aH X.env) (λv s1=>wpAny (model X.prog X.w) X.A (pyIter v) (UQ X aa σ tg R) X.xe s1) X.xe s
theorem vE{M:Model}{A:Around}{E:Value->Shared->Prop}{s:Shared}{tg:Expr}{it:Addr}{u:Value}{o:Obj}{n:String}{vs:Array Value}{Q:Unit->Shared->Prop}(ho:s.heap.get? it=some o)(hc:o.cls=.type n)(hd:o.data=.fields vs) (hn:["enumerate","zip","dict_itemiterator","dict_reverseitemiterator","odict_iterator","itertools.zip_longest","itertools.pairwise"].contains n=false) (hQ:Q () s):wpAny M A (letOwnedTupleGo tg (.ref it) u) Q E s:=by
  unfold letOwnedTupleGo
  cases tg<;>first
    | exact aZ hQ
    | (cases u <;> first
        | exact aZ hQ
        | (refine aq (wpAny_load ho ?_)
           rw[hc,hd];show wpAny M A (if (["enumerate","zip","dict_itemiterator","dict_reverseitemiterator","odict_iterator","itertools.zip_longest","itertools.pairwise"].contains n&&vs[0]? == some (rawInt _))=true then _ else _) Q E s;rw[aX (by intro h;rw[hn,lM]at h;cases h)];exact aZ hQ))
def Rz(K:PySem.W.Frag)(a:Addr):It :=
 ⟨λi H=>∃xs x,fv K H a xs/\xs[i]?=some x,λi H x H'=>H'=H/\∀xs,fv K H a xs->xs[i]?=some x,λi H=>∃xs,fv K H a xs/\xs.length<=i⟩
def RA(K:PySem.W.Frag)(a:Addr):It :=
 ⟨λi H=>∃xs x,fS K H a xs/\xs[i]?=some x,λi H x H'=>H'=H/\∀xs,fS K H a xs->xs[i]?=some x,λi H=>∃xs,fS K H a xs/\xs.length<=i⟩
noncomputable def P2(lo:Int)(n:Nat):It:=⟨λi _=>i<n,λi H x H'=>H'=H/\x=.int (lo+i),λi _=>n<=i⟩
theorem ya{P:Program}{w:World}{K:PySem.W.Frag}{tg:Expr}(a it:Addr):t7 P w K tg (Rz K a) [it] it (λi h=>h.IsListIter it a i) where
 mem:=by simp
 obj:=λi h st b hb=>by
  have e:b=it:=by simpa using hb
  subst e;obtain⟨o,e,c,d⟩:=st;exact⟨o,e,λv z=>by rw[d]at z;cases z⟩
 keep:=λi h h' st k=>st.at λo e=>k it (by simp) o e
 item:=by
  intro X hP hw hK hc i aa s σ H E I hf st hg;subst hP hw hK;obtain⟨xs,x,hq,hx⟩:=hg;obtain⟨aA,rv,p,hz⟩:=I.list hq;obtain⟨u,hu,ru⟩:=rv.get hx;obtain⟨f0,f1,f2,f3,f4,f5⟩:=hf it (by simp);refine wpAny_pyNext_list_item st p.isList (x:=u) (by simpa using hu) λh' zO sb=>?_;have I1:Inv X aa σ H {s with heap:=h'}:=I.turned (t':=s.toks) (λb o hb e=>(sb.2 b hb).trans e) f0 f1 f3 f4 f5;obtain⟨o,e,c,d⟩:=id zO;exact⟨u,rfl,vE (s:={s with heap:=h'}) e c d (by decide) ⟨x,H,I1,ru,⟨rfl,λys hy=>by rw[I.rq hy hq];exact hx⟩,zO,λb hb=>(hf b hb).1⟩⟩
 done:=by
  intro X hP hw hK hc i aa s σ H E I hf st hg;subst hP hw hK;obtain⟨xs,hq,hx⟩:=hg;obtain⟨aA,rv,p,hz⟩:=I.list hq;obtain⟨f0,f1,f2,f3,f4,f5⟩:=hf it (by simp);have hl:=rv.length;exact wpAny_pyNext_list_end (I.ok.hd hc) st p.isList (by simp;omega) λh' eb=>⟨rfl,I.turned (t':=s.toks) (λb o hb e=>eb b o hb e) f0 f1 f3 f4 f5⟩
 self:=λ_ _ _ _ _ st h=>wpAny_pyIter_listiter st h
theorem t8{P:Program}{w:World}{K:PySem.W.Frag}{tg:Expr}(a it:Addr):t7 P w K tg (RA K a) [it] it (λi h=>h.IsTupleIter it a i) where
 mem:=by simp
 obj:=λi h st b hb=>by
  have e:b=it:=by simpa using hb
  subst e;obtain⟨o,e,c,d⟩:=st;exact⟨o,e,λv z=>by rw[d]at z;cases z⟩
 keep:=λi h h' st k=>st.at λo e=>k it (by simp) o e
 item:=by
  intro X hP hw hK hc i aa s σ H E I hf st hg;subst hP hw hK;obtain⟨xs,x,hq,hx⟩:=hg;obtain⟨aA,rv,p,hz⟩:=I.tuple hq;obtain⟨u,hu,ru⟩:=rv.get hx;obtain⟨f0,f1,f2,f3,f4,f5⟩:=hf it (by simp);refine wpAny_pyNext_tuple_item st (show s.heap.IsTuple a aA.toArray from p) (x:=u) (by simpa using hu) λh' zO sb=>?_;have I1:Inv X aa σ H {s with heap:=h'}:=I.turned (t':=s.toks) (λb o hb e=>(sb.2 b hb).trans e) f0 f1 f3 f4 f5;obtain⟨o,e,c,d⟩:=id zO;exact⟨u,rfl,vE (s:={s with heap:=h'}) e c d (by decide) ⟨x,H,I1,ru,⟨rfl,λys hy=>by rw[I.nQ hy hq];exact hx⟩,zO,λb hb=>(hf b hb).1⟩⟩
 done:=by
  intro X hP hw hK hc i aa s σ H E I hf st hg;subst hP hw hK;obtain⟨xs,hq,hx⟩:=hg;obtain⟨aA,rv,p,hz⟩:=I.tuple hq;obtain⟨f0,f1,f2,f3,f4,f5⟩:=hf it (by simp);have hl:=rv.length;exact wpAny_pyNext_tuple_end (I.ok.hd hc) st (show s.heap.IsTuple a aA.toArray from p) (by simp;omega) λh' eb=>⟨rfl,I.turned (t':=s.toks) (λb o hb e=>eb b o hb e) f0 f1 f3 f4 f5⟩
 self:=λ_ _ _ _ _ st h=>wpAny_pyIter_tupleiter st h
theorem t9{P:Program}{w:World}{K:PySem.W.Frag}{tg:Expr}(it:Addr)(lo:Int)(n:Nat):t7 P w K tg (P2 lo n) [it] it (λi h=>IsRangeIter h it (lo+(i:Nat)*1) ((n:Int)-(i:Nat)) 1) where
 mem:=by simp
 obj:=λi h st b hb=>by
  have e:b=it:=by simpa using hb
  subst e
  exact⟨_,st,λv z=>by
   have z':Data.fields _=Data.cell v:=z;cases z'⟩
 keep:=λi h h' st k=>k it (by simp) _ st
 item:=by
  intro X hP hw hK hc i aa s σ H E I hf st hg;subst hP hw hK;obtain⟨f0,f1,f2,f3,f4,f5⟩:=hf it (by simp);have W:=Walks.range (prog:=X.prog) (w:=X.w) (I.ok.hd hc) it lo 1 n;refine W.item i s _ _ hg st λv h' tk hv zO kk=>?_;obtain⟨t,rfl⟩:=hv;have I1:Inv X aa σ H {s with heap:=h',toks:=tk}:=I.turned (λb o hb e=>kk b o (by simpa using hb) e) f0 f1 f3 f4 f5;refine⟨_,rfl,vE (s:={s with heap:=h',toks:=tk}) (n := "range_iterator") zO rfl rfl (by decide) ⟨.int (lo+i),H,I1,⟨t,?_⟩,⟨rfl,rfl⟩,zO,λb hb=>(hf b hb).1⟩⟩;rw[Int.mul_one]
 done:=by
  intro X hP hw hK hc i aa s σ H E I hf st hg;subst hP hw hK;obtain⟨f0,f1,f2,f3,f4,f5⟩:=hf it (by simp);exact wpAny_pyNext_range_end (I.ok.hd hc) st (by have:n<=i:=hg;omega) λh' eb=>⟨rfl,I.turned (t':=s.toks) (λb o hb e=>eb b o hb e) f0 f1 f3 f4 f5⟩
 self:=λ_ _ _ _ _ st h=>wpAny_pyIter_rangeiter st h
section
variable {X:Cx} {tg:Expr}
def ME(K:PySem.W.Frag)(tl:TE):TI:=λσ H R=>tl σ H λx H1=>∃a,x=.ref a/\(∃xs,fv K H1 a xs)/\R (Rz K a) H1
def RB(K:PySem.W.Frag)(tl:TE):TI:=λσ H R=>tl σ H λx H1=>∃a,x=.ref a/\(∃xs,fS K H1 a xs)/\R (RA K a) H1
theorem pq{l:Expr}{tl:TE}(hl:PE X l tl):PI X tg l (ME X.K tl):=by
 intro aa s σ H R I h;refine bV (hl aa s σ H _ I h) ?_;rintro v s1 ⟨x,H1,I1,r1,q1⟩;obtain⟨a,e,⟨xs,hq⟩,q⟩:=q1;subst e;cases r1;obtain⟨aA,rv,p,hz⟩:=I1.list hq;refine wpAny_pyIter_list p.isList ?_;refine⟨s1.heap.objs.size,[s1.heap.objs.size],_,_,H1,rfl,I1.kept (t':=s1.toks) λb o e=>cA _ e,ya a _,⟨_,fm _ rfl,rfl,rfl⟩,λb hb=>?_,q⟩;have e:b=s1.heap.objs.size:=by simpa using hb
 subst e;exact I1.x_ (ar _) (I1.bc.fresh (ar _))
theorem zP{l:Expr}{tl:TE}(hl:PE X l tl):PI X tg l (RB X.K tl):=by
 intro aa s σ H R I h;refine bV (hl aa s σ H _ I h) ?_;rintro v s1 ⟨x,H1,I1,r1,q1⟩;obtain⟨a,e,⟨xs,hq⟩,q⟩:=q1;subst e;cases r1;obtain⟨aA,rv,p,hz⟩:=I1.tuple hq;refine C0 (show s1.heap.IsTuple a aA.toArray from p) ?_;refine⟨s1.heap.objs.size,[s1.heap.objs.size],_,_,H1,rfl,I1.kept (t':=s1.toks) λb o e=>cA _ e,t8 a _,⟨_,fm _ rfl,rfl,rfl⟩,λb hb=>?_,q⟩;have e:b=s1.heap.objs.size:=by simpa using hb
 subst e;exact I1.x_ (ar _) (I1.bc.fresh (ar _))
theorem zQ{aa:List (Addr×Obj)}{σ:St}{H:Hp}{s:Shared}{R:It->Hp->Prop}{E:Value->Shared->Prop}{lo hi:Int}{t u v:Tok}{tk:Nat}(I:Inv X aa σ H s)(h1:-(2 ^ 62)<=lo)(h2:lo<2 ^ 62)(h3:-(2 ^ 62)<=hi)(h4:hi<2 ^ 62)(q:R (P2 lo (hi-lo).toNat) H):wpAny (model X.prog X.w) X.A (pyIter (.ref s.heap.objs.size)) (UQ X aa σ tg R) E {s with heap:=s.heap.push {cls:=.type "range",data:=.fields #[.int lo t,.int hi u,.int 1 v]},toks:=tk}:=by
 refine wpAny_pyIter_range (IsRange.new ..) (small_one h1 h2 h3 h4) ?_;have I1:Inv X aa σ H {s with heap:=s.heap.push {cls:=.type "range",data:=.fields #[.int lo t,.int hi u,.int 1 v]},toks:=tk}:=I.kept λb o e=>cA _ e
 refine⟨(s.heap.push {cls:=.type "range",data:=.fields #[.int lo t,.int hi u,.int 1 v]}).objs.size,[(s.heap.push {cls:=.type "range",data:=.fields #[.int lo t,.int hi u,.int 1 v]}).objs.size],_,_,H,rfl,
  I1.kept (t':=tk) λb o e=>cA _ e,t9 _ lo (hi-lo).toNat,?_,λb hb=>?_,q⟩
 ·have e1:lo+((0:Nat):Int)*1=lo:=by simp
  have e2:(((hi-lo).toNat:Nat):Int)-((0:Nat):Int)=Builtin.Range.rangeSize lo hi 1:=by rw[rangeSize_one];split<;>omega
  show IsRangeIter _ _ (lo+((0:Nat):Int)*1) ((((hi-lo).toNat:Nat):Int)-((0:Nat):Int)) 1;rw[e1,e2];exact fm _ rfl
 ·have e:b=(s.heap.push {cls:=.type "range",data:=.fields #[.int lo t,.int hi u,.int 1 v]}).objs.size:=by simpa using hb
  subst e;exact I1.x_ (ar _) (I1.bc.fresh (ar _))
def MF(ta:TA):TI:=λσ H R=>ta σ H λvs H1=>∃j:Int,vs=[.int j]/\-(2 ^ 62)<=j/\j<2 ^ 62/\R (P2 0 j.toNat) H1
theorem yb{a:Expr}{ta:TA}{p pos:Pos} (hg:Gl X "range") (hm:X.mg "range" = none) (ha:PA X [a] ta) (hs:starEach [a] X.env=[(false,eval a X.env)]:=by rfl):PI X tg (.Call (.Name "range" p) [a] [] pos) (MF ta):=by
 intro aa s σ H R I h;refine Call_ (lS I hg hm boot_range (Hb (bV (ha pos aa s σ H _ I h) ?_) hs rfl));rintro us s1 ⟨vs,H1,I1,r1,q1⟩;obtain⟨j,e,q1,q2,q⟩:=q1;subst e
 cases r1 with
 | cons r rr =>
  cases rr;obtain⟨t,rfl⟩:=r;exact call_range_1 (zQ I1 ∅ ∅ q1 q2 (by simpa using q))
noncomputable def RC(wi:TI)(g:TG)(tb:TS):TS:=λD σ H=>wi σ H λJ H1=>∃W:Nat->Nat->St->Hp->Prop,(∃m,W 0 m σ H1)/\∀i m σ H,W i m σ H ->
 (J.stop i H/\D.nx σ H)\/(J.go i H/\∃N:St->Hp->Prop,(∀cD H',N cD H'->∃m',m'<m/\W (i+1) m' cD H')/\∀x H',J.Lb i H x H'->g x σ H' λDv H2=>tb {D with nx:=N,ct:=N,bk:=D.nx} Dv H2)
noncomputable def j8(fp:List Addr)(h:Heap):List (Addr×Obj):=fp.filterMap λb=>(h.get? b).map λo=>(b,o)
theorem gj{fp:List Addr}{h:Heap}{b:Addr}{o:Obj}(hb:b∈fp)(e:h.get? b=some o):(b,o)∈j8 fp h:=Hr.mpr ⟨b,hb,by rw[e];rfl⟩
theorem yc{fp:List Addr}{h:Heap}{p:Addr×Obj}(hp:p∈j8 fp h):p.1∈fp/\h.get? p.1=some p.2:=by
 obtain⟨b,hb,e⟩:=Hr.mp hp
 cases q:h.get? b with
 | none=>rw[q]at e;cases e
 | some o =>
  rw[q]at e;have e':(b,o)=p:=cu e;subst e';exact⟨hb,q⟩
theorem Inv.pinned{aa:List (Addr×Obj)}{σ:St}{H:Hp}{s:Shared}{fp:List Addr}(I:Inv X aa σ H s)(hf:∀b∈fp,lh X aa H b)(ho:∀b∈fp,∃o,s.heap.get? b=some o/\∀v,o.data≠.cell v):Inv X (aa++j8 fp s.heap) σ H s :=
 I.ph λp hp=>(gO.mp hp).elim (λz=>I.pin p (fP _ z)) λz=>by
  obtain⟨hb,e⟩:=yc z;obtain⟨f0,f1,f2,_⟩:=hf p.1 hb;obtain⟨o,e',d⟩:=ho p.1 hb;rw[e]at e';cases e';exact⟨e,f0,f1,f2,d⟩
theorem Inv.gQ{aa pl:List (Addr×Obj)}{σ:St}{H:Hp}{s:Shared}(I:Inv X (aa++pl) σ H s):Inv X aa σ H s:=I.ph λp hp=>I.pin p (fP _ (oS _ hp))
theorem HU{aH:Expr}{body:List Stmt}{wi:TI}{g:TG}{tb:TS}{pos:Pos}(hp:PassesOwn (model X.prog X.w) X.A X.env X.xe)(hc:X.calm=true)(hi:PI X tg aH wi)(hg:PG X tg g)(hb:nP X body tb)(hs:∀x,foldedSetIterable aH X.env x=pure x:=by intro _;rfl):PS X (.For tg aH body [] pos) (RC wi g tb):=by
 intro aa s σ H D I h;refine wpAny_For (bV (hi aa s σ H _ I h) λv s1 h1=>bV h1 λP1 s2 h2=>?_) hs;obtain⟨it,fp,tn,J,H2,e,I2,T,Dw,f2,W,⟨m0,w0⟩,zR⟩:=h2;subst e;have HV:∀{H':Hp},(∀b∈fp,H' b=none)->∀b∈fp,lh X aa H' b:=λhn b hb=>⟨hn b hb,(f2 b hb).2⟩;refine codeAny_forLoop_any (λn s'=>∃i cD H',Inv X aa cD H' s'/\tn i s'.heap/\(∀b∈fp,H' b=none)/\W i n cD H') ?_ m0 ⟨0,σ,H2,I2,Dw,λb hb=>(f2 b hb).1,w0⟩;rintro n s3 ⟨i,Dx,H3,I3,P4,Dy,w3⟩;rcases zR i n Dx H3 w3 with⟨stop,qn⟩|⟨go,N,hN,step⟩
 ·refine zv hp (bV (T.done X rfl rfl rfl hc i aa s3 Dx H3 X.xe I3 (HV Dy) P4 stop) ?_);rintro r s4 ⟨rfl,I4⟩;exact oX ⟨Dx,H3,I4,qn⟩
 ·refine zv hp (bV (T.item X rfl rfl rfl hc i aa s3 Dx H3 X.xe I3 (HV Dy) P4 go) ?_);rintro r s4 ⟨u,rfl,h4⟩;refine zv hp (bV h4 ?_);rintro _ s5 ⟨x,H5,I5,r5,y5,Lc,Dz⟩;have V9:=I5.pinned (HV Dz) (T.obj _ _ Lc);refine zv hp (bV (hg _ s5 Dx H5 x u _ V9 r5 (step x H5 y5)) ?_);rintro _ s6 ⟨V_,H6,I6,q6⟩;refine zv hp (bV (hb _ s6 V_ H6 _ I6 q6) λf s7 q7=>?_)
  have again:∀{zS:St}{H7:Hp},Inv X (aa++j8 fp s5.heap) zS H7 s7->N zS H7->∃m,m<n/\∃i cD H',Inv X aa cD H' s7/\tn i s7.heap/\(∀b∈fp,H' b=none)/\W i m cD H':=λ{zS H7} I7 n7=>by
   obtain⟨m',hm,w7⟩:=hN zS H7 n7;refine⟨m',hm,i+1,zS,H7,I7.gQ,T.keep _ _ _ Lc λb hb o e=>(I7.pin (b,o) (fP _ (fP _ (gj hb e)))).1,λb hb=>?_,w7⟩;obtain⟨o,e,d⟩:=T.obj _ _ Lc b hb;exact(I7.pin (b,o) (fP _ (fP _ (gj hb e)))).2.1
  cases f with
  | next=>obtain⟨zS,H7,I7,n7⟩:=q7;exact again I7 n7
  | cont=>obtain⟨zS,H7,I7,n7⟩:=q7;exact again I7 n7
  | brk=>obtain⟨zS,H7,I7,q7⟩:=q7;exact⟨zS,H7,I7.gQ,q7⟩
  | ret v=>obtain⟨x7,zS,H7,I7,r7,q7⟩:=q7;exact⟨x7,zS,H7,I7.gQ,r7,q7⟩
end
abbrev R2:=V->V->Hp->VK->Prop
def ik(X:Cx)(f:Value->Value->Sem Value)(r:R2):Prop :=
 ∀(aa:List (Addr×Obj))(s:Shared)(σ:St)(H:Hp)(x y:V)(v u:Value)(Q:VK),Inv X aa σ H s->RelV x v->RelV y u->r x y H Q ->
  wpAny (model X.prog X.w) X.A (f v u) (EP X aa σ Q) X.xe s
def RE(X:Cx)(f:Value->Sem Value)(r:V->Hp->VK->Prop):Prop :=
 ∀(aa:List (Addr×Obj))(s:Shared)(σ:St)(H:Hp)(x:V)(v:Value)(Q:VK),Inv X aa σ H s->RelV x v->r x H Q ->
  wpAny (model X.prog X.w) X.A (f v) (EP X aa σ Q) X.xe s
def dt(X:Cx)(f:Value)(r:List V->Hp->VK->Prop):Prop :=
 ∀(aa:List (Addr×Obj))(s:Shared)(σ:St)(H:Hp)(xs:List V)(us:List Value)(Q:VK),Inv X aa σ H s->aO xs us->r xs H Q ->
  wpAny (model X.prog X.w) X.A (call f us) (EP X aa σ Q) X.xe s
def RF(X:Cx)(r:V->Hp->(Bool->Hp->Prop)->Prop):Prop :=
 ∀(aa:List (Addr×Obj))(s:Shared)(σ:St)(H:Hp)(x:V)(v:Value)(Q:Bool->Hp->Prop),Inv X aa σ H s->RelV x v->r x H Q ->
  wpAny (model X.prog X.w) X.A (truthy v) (TP X aa σ Q) X.xe s
noncomputable def CL(r:R2)(ta tb:TE):TE:=λσ H Q=>ta σ H λx H1=>tb σ H1 λy H2=>r x y H2 Q
noncomputable def Wa(r:V->Hp->VK->Prop)(ta:TE):TE:=λσ H Q=>ta σ H λx H1=>r x H1 Q
noncomputable def rI(C:Int->Int->Prop)(g:Int->Int->V):R2:=λx y H Q=>∃i j,x=.int i/\y=.int j/\C i j/\Q (g i j) H
noncomputable def F9(g:Int->Int->V):R2:=λx y H Q=>∃i j,x=.int i/\y=.int j/\Q (g i j) H
noncomputable def rU(g:Int->V):V->Hp->VK->Prop:=λx H Q=>∃i,x=.int i/\Q (g i) H
section
variable {X:Cx} {a b c:Expr} {ta tb tc:TE} {pos:Pos}
theorem HW(ha:PE X a ta)(hb:PE X b tb){aa:List (Addr×Obj)}{s:Shared}{σ:St}{H:Hp}{R:V->V->Hp->Prop}(I:Inv X aa σ H s)(h:ta σ H λx H1=>tb σ H1 λy H2=>R x y H2){Q:Value->Shared->Prop}{f:Value->Value->Sem Value}(hf:∀v u s2 x y H2,Inv X aa σ H2 s2->RelV x v->RelV y u->R x y H2->wpAny (model X.prog X.w) X.A (f v u) Q X.xe s2):wpAny (model X.prog X.w) X.A (eval a X.env) (λv bL=>wpAny (model X.prog X.w) X.A (eval b X.env) (λu DA=>wpAny (model X.prog X.w) X.A (f v u) Q X.xe DA) X.xe bL) X.xe s:=by
 refine bV (ha aa s σ H _ I h) ?_;rintro v s1 ⟨x,H1,I1,r1,q1⟩;refine bV (hb aa s1 σ H1 _ I1 q1) ?_;rintro u s2 ⟨y,H2,I2,r2,q2⟩;exact hf v u s2 x y H2 I2 r1 r2 q2
theorem MG{op:Operator}{r:R2}(ho:ik X (binaryOp op) r)(ha:PE X a ta)(hb:PE X b tb):PE X (.BinOp a op b pos) (CL r ta tb):=by
 intro aa s σ H Q I h;exact wpAny_BinOp (HW ha hb I h λv u s2 x y H2 I2 rx ry q=>ho aa s2 σ H2 x y v u Q I2 rx ry q)
theorem MH{op:UnaryOp}{r:V->Hp->VK->Prop}(ho:RE X (unaryOp op) r)(ha:PE X a ta):PE X (.UnaryOp op a pos) (Wa r ta):=by
 intro aa s σ H Q I h;exact UnaryOp_ (bV (ha aa s σ H _ I h) λv s1 ⟨x,H1,I1,r1,q1⟩=>ho aa s1 σ H1 x v Q I1 r1 q1)
theorem P5{f:Value->Value->Sem Value}{C:Int->Int->Prop}{g:Int->Int->Int}(rule:∀(i j:Int)(t u:Tok)(s:Shared)(Q:Value->Shared->Prop)(E:Value->Shared->Prop),C i j->Q (.int (g i j) s.toks) {s with toks:=s.toks+1}->wpAny (model X.prog X.w) X.A (f (.int i t) (.int j u)) Q E s):ik X f (rI C λi j=>.int (g i j)):=by
 intro aa s σ H x y v u Q I rx ry h;obtain⟨i,j,rfl,rfl,hc,q⟩:=h;obtain⟨t,rfl⟩:=rx;obtain⟨t',rfl⟩:=ry;exact rule i j t t' s _ _ hc ⟨.int (g i j),H,I.tok _,⟨_,rfl⟩,q⟩
theorem MI{f:Value->Value->Sem Value}{g:Int->Int->Int}(rule:∀(i j:Int)(t u:Tok)(s:Shared)(Q:Value->Shared->Prop)(E:Value->Shared->Prop),Q (.int (g i j) s.toks) {s with toks:=s.toks+1}->wpAny (model X.prog X.w) X.A (f (.int i t) (.int j u)) Q E s):ik X f (F9 λi j=>.int (g i j)):=by
 intro aa s σ H x y v u Q I rx ry h;obtain⟨i,j,rfl,rfl,q⟩:=h;obtain⟨t,rfl⟩:=rx;obtain⟨t',rfl⟩:=ry;exact rule i j t t' s _ _ ⟨.int (g i j),H,I.tok _,⟨_,rfl⟩,q⟩
theorem DB{f:Value->Value->Sem Value}{g:Int->Int->Bool}(rule:∀(i j:Int)(t u:Tok)(s:Shared)(Q:Value->Shared->Prop)(E:Value->Shared->Prop),Q (.bool (g i j)) s->wpAny (model X.prog X.w) X.A (f (.int i t) (.int j u)) Q E s):ik X f (F9 λi j=>.bl (g i j)):=by
 intro aa s σ H x y v u Q I rx ry h;obtain⟨i,j,rfl,rfl,q⟩:=h;obtain⟨t,rfl⟩:=rx;obtain⟨t',rfl⟩:=ry;exact rule i j t t' s _ _ ⟨.bl (g i j),H,I,rfl,q⟩
def RG(i j:Int):Prop:=0<j/\j<1073741824
noncomputable def RH(i j:Int):Prop:=0<=j/\j<=1000000/\i.natAbs<2 ^ 64
noncomputable def HX(i j:Int):Prop:=(-(2 ^ 64)<i/\i<2 ^ 64)\/(-(2 ^ 64)<j/\j<2 ^ 64)
theorem HX.ok{i j:Int}(h:HX i j):IntMulOk i j:=by
 rcases h with⟨h1,h2⟩|⟨h1,h2⟩
 ·exact .of_left (intBits_le_64 h1 h2)
 ·exact .of_right (intBits_le_64 h1 h2)
theorem HY:ik X (binaryOp .Add) (F9 λi j=>.int (i+j)):=MI λ_ _ _ _ _ _ _ q=>add_int q
theorem HZ:ik X (binaryOp .Sub) (F9 λi j=>.int (i-j)):=MI λ_ _ _ _ _ _ _ q=>sub_int q
theorem H_:ik X (binaryOp .Mult) (rI HX λi j=>.int (i*j)):=P5 λ_ _ _ _ _ _ _ hc q=>mul_int q hc.ok
theorem DC:ik X (binaryOp .FloorDiv) (rI RG λi j=>.int (i / j)):=P5 λi j _ _ _ _ _ hc q=>by
 have h1:(0:Int)<j:=hc.1;have h2:j<1073741824:=hc.2;exact floordiv_int ∅ (by rw[Int.fdiv_eq_ediv_of_nonneg i ∅];exact q) (.inl (PyProof.noPylong_small ∅))
theorem Ia:ik X (binaryOp .Mod) (rI (λ_ j=>0<j) λi j=>.int (i % j)):=P5 λi j _ _ _ _ _ hc q=>by
 have h1:(0:Int)<j:=hc;exact mod_int' ∅ (by rw[Int.fmod_eq_emod_of_nonneg i ∅];exact q)
theorem Ib:ik X (binaryOp .Pow) (rI RH λi j=>.int (i ^ j.toNat)):=P5 λ_ _ _ _ _ _ _ hc q=>pow_int_small hc.1 hc.2.1 hc.2.2 q
theorem Wb{f:Value->Sem Value}{g:Int->Int}(rule:∀(i:Int)(t:Tok)(s:Shared)(Q:Value->Shared->Prop)(E:Value->Shared->Prop),Q (.int (g i) s.toks) {s with toks:=s.toks+1}->wpAny (model X.prog X.w) X.A (f (.int i t)) Q E s):RE X f (rU λi=>.int (g i)):=by
 intro aa s σ H x v Q I rx h;obtain⟨i,rfl,q⟩:=h;obtain⟨t,rfl⟩:=rx;exact rule i t s _ _ ⟨.int (g i),H,I.tok _,⟨_,rfl⟩,q⟩
theorem Ic:RE X (unaryOp .USub) (rU λi=>.int (-i)):=Wb λ_ _ _ _ _ q=>neg_int q
end
section
variable {X:Cx} {a b c:Expr} {ta tb tc:TE} {pos:Pos}
theorem lW{aa:List (Addr×Obj)}{σ:St}{H:Hp}{s:Shared}{Q:VK}{k k':Bool}(I:Inv X aa σ H s)(q:Q (.bl k) H)(e:k=k'):EP X aa σ Q (.bool k') s:=by
 subst e;exact⟨.bl k,H,I,rfl,q⟩
theorem MJ:ik X (compareOp .Lt) (F9 λi j=>.bl (decide (i<j))):=DB λ_ _ _ _ _ _ _ q=>lt_int q
theorem MK:ik X (compareOp .LtE) (F9 λi j=>.bl (decide (i<=j))):=DB λ_ _ _ _ _ _ _ q=>le_int q
theorem ML:ik X (compareOp .Gt) (F9 λi j=>.bl (decide (j<i))):=DB λ_ _ _ _ _ _ _ q=>gt_int q
theorem MM:ik X (compareOp .GtE) (F9 λi j=>.bl (decide (j<=i))):=DB λ_ _ _ _ _ _ _ q=>ge_int q
theorem yd:ik X (compareOp .Lt) (λx y H Q=>∃i j,x=.str i/\y=.str j/\Q (.bl (decide (i.cps.toList<j.cps.toList))) H):=by
 intro aa s σ H x y v u Q I rx ry h;obtain⟨i,j,rfl,rfl,q⟩:=h;obtain⟨t,rfl⟩:=rx;obtain⟨t',rfl⟩:=ry;exact lt_str (lW I q rfl)
theorem Ie:ik X (compareOp .Is) (λx y H Q=>y=.aK/\Q (.bl (decide (x=.aK))) H):=by
 intro aa s σ H x y v u Q I rx ry h;obtain⟨rfl,q⟩:=h;cases ry;refine is_none_gen (lW I q ?_)
 cases x<;>first
  | (cases rx;rfl)
  | (obtain⟨t,rfl⟩:=rx;rfl)
theorem DD:ik X (compareOp .IsNot) (λx y H Q=>y=.aK/\Q (.bl (!decide (x=.aK))) H):=by
 intro aa s σ H x y v u Q I rx ry h;obtain⟨rfl,q⟩:=h;cases ry;refine isnot_none_gen (lW I q ?_)
 cases x<;>first
  | (cases rx;rfl)
  | (obtain⟨t,rfl⟩:=rx;rfl)
theorem lA{op:CmpOp}{r:R2}(ho:ik X (compareOp op) r)(ha:PE X a ta)(hb:PE X b tb)(hm:behindInMarks op b=false):PE X (.Compare a [op] [b] pos) (CL r ta tb):=by
 intro aa s σ H Q I h;exact wpAny_Compare1 (HW ha hb I h λv u s2 x y H2 I2 rx ry q=>ho aa s2 σ H2 x y v u Q I2 rx ry q) hm
noncomputable def gR(t:TE):TT:=λσ H Q=>t σ H λx H'=>∃k,x=.bl k/\Q k H'
theorem lB{op:CmpOp}{r:R2}(ho:ik X (compareOp op) r)(ha:PE X a ta)(hb:PE X b tb)(hm:behindInMarks op b=false):PT X (.Compare a [op] [b] pos) (gR (CL r ta tb)):=by
 intro aa s σ H Q I h
 refine wpAny_isTrue_Compare1 (bV (ha aa s σ H _ I h) λv s1 ⟨x,H1,I1,r1,q1⟩=>bV (hb aa s1 σ H1 _ I1 q1) λu s2 ⟨y,H2,I2,r2,q2⟩ =>
  bV (ho aa s2 σ H2 x y v u _ I2 r1 r2 q2) λc s3 ⟨z,H3,I3,r3,k,e,q3⟩=>?_) hm
 subst e;cases r3;exact oU ⟨H3,I3,q3⟩
noncomputable def t_(r r':R2)(ta tb tc:TE):TE:=λσ H Q=>ta σ H λx H1=>tb σ H1 λy H2=>r x y H2 λz H3=>∃k,z=.bl k /\
 (if k=true then tc σ H3 λw' H4=>r' y w' H4 Q else Q (.bl false) H3)
theorem zT{op Ig:CmpOp}{r r':R2}(ho:ik X (compareOp op) r)(zF:ik X (compareOp Ig) r')(ha:PE X a ta)(hb:PE X b tb)(hc:PE X c tc)(hm:lastMarks [op,Ig] [b,c]=false:=by with_unfolding_all rfl):PE X (.Compare a [op,Ig] [b,c] pos) (t_ r r' ta tb tc):=by
 intro aa s σ H Q I h
 refine Compare_chain (bV (ha aa s σ H _ I h) λv s1 ⟨x,H1,I1,r1,q1⟩=>chain_link (bV (hb aa s1 σ H1 _ I1 q1) λu s2 ⟨y,H2,I2,r2,q2⟩ =>
  bV (ho aa s2 σ H2 x y v u _ I2 r1 r2 q2) λd s3 ⟨z,H3,I3,r3,k,e,q3⟩=>?_)) hm
 subst e;cases r3;refine oU ?_
 cases k with
 | false=>exact ite_ff ⟨.bl false,H3,I3,rfl,q3⟩
 | true=>exact ite_tt (chain_last (bV (hc aa s3 σ H3 _ I3 q3) λw' s4 ⟨z',H4,I4,r4,q4⟩=>zF aa s4 σ H4 y z' u w' Q I4 r2 r4 q4))
theorem zU{op Ig:CmpOp}{r r':R2}(ho:ik X (compareOp op) r)(zF:ik X (compareOp Ig) r')(ha:PE X a ta)(hb:PE X b tb)(hc:PE X c tc)(hm:lastMarks [op,Ig] [b,c]=false:=by with_unfolding_all rfl):PT X (.Compare a [op,Ig] [b,c] pos) (gR (t_ r r' ta tb tc)):=by
 intro aa s σ H Q I h
 refine isTrue_chain (bV (ha aa s σ H _ I h) λv s1 ⟨x,H1,I1,r1,q1⟩=>test_link (bV (hb aa s1 σ H1 _ I1 q1) λu s2 ⟨y,H2,I2,r2,q2⟩ =>
  bV (ho aa s2 σ H2 x y v u _ I2 r1 r2 q2) λd s3 ⟨z,H3,I3,r3,k,e,q3⟩=>?_)) hm
 subst e;cases r3;refine oU ?_
 cases k with
 | false =>
  obtain⟨k',e',q'⟩:=q3;cases e';exact ite_ff ⟨H3,I3,q'⟩
 | true =>
  refine ite_tt (test_last (bV (hc aa s3 σ H3 _ I3 q3) λw' s4 ⟨z',H4,I4,r4,q4⟩=>bV (zF aa s4 σ H4 y z' u w' _ I4 r2 r4 q4) λd' s5 ⟨z2,H5,I5,r5,k2,e2,q5⟩=>?_));subst e2;cases r5;exact oU ⟨H5,I5,q5⟩
def zV(K:PySem.W.Frag)(x:V)(H:Hp)(k:Bool):Prop :=
 match x with
 | .aK=>k=false
 | .bl b=>k=b
 | .int i=>k=(i != 0)
 | .str y=>y.length<=sizeLine/\k=((y.length:Int) != 0)
 | .F0 y=>y.size<=sizeLine/\k=((y.size:Int) != 0)
 | .ref p=>(∃xs,fv K H p xs/\k=!xs.isEmpty)\/(∃xs,fS K H p xs/\k=!xs.isEmpty)\/∃ao,H p=some (.dK ao)/\k=!ao.isEmpty
 | _=>False
theorem ua{κ:Type}{ao:List (κ×V)}{vs:List (κ×Value)}(r:KV ao vs):(!vs.isEmpty)=!ao.isEmpty:=by
 cases r<;>rfl
theorem lX{xs:List V}{aA:List Value}(r:aO xs aA):(!aA.toArray.isEmpty)=!xs.isEmpty:=by
 cases r<;>simp
theorem iV:(sizeLine:Nat)<2 ^ 63:=by rw[xW];decide
theorem Ih:RF X (λx H Q=>∃k,zV X.K x H k/\Q k H):=by
 intro aa s σ H x v Q I rx h;obtain⟨k,e,q⟩:=h;have hl:=iV;have hs:sizeLine=16777216:=xW
 cases x with
 | aK =>
  cases rx;have e':k=false:=e;subst e';exact truthy_none ⟨H,I,q⟩
 | bl b =>
  cases rx;have e':k=b:=e;subst e';exact oU ⟨H,I,q⟩
 | int i =>
  obtain⟨t,rfl⟩:=rx;have e':k=(i != 0):=e;subst e';exact PySem.P.truthy_int ⟨H,I,q⟩
 | str y =>
  obtain⟨t,rfl⟩:=rx;obtain⟨hy,e'⟩:y.length<=sizeLine/\k=((y.length:Int) != 0):=e;subst e';exact PySem.P.truthy_str ∅ ⟨H,I.tok _,q⟩
 | F0 y =>
  obtain⟨t,rfl⟩:=rx;obtain⟨hy,e'⟩:y.size<=sizeLine/\k=((y.size:Int) != 0):=e;subst e';exact PySem.W.truthy_bytes ∅ ⟨H,I.tok _,q⟩
 | ref p =>
  cases rx;have e':(∃xs,fv X.K H p xs/\k=!xs.isEmpty)\/(∃xs,fS X.K H p xs/\k=!xs.isEmpty)\/∃ao,H p=some (.dK ao)/\k=!ao.isEmpty:=e;rcases e' with⟨xs,hx,e'⟩|⟨xs,hx,e'⟩|⟨ao,hx,e'⟩
  ·subst e';obtain⟨aA,r,pl,hz⟩:=I.list hx;have bf:=r.length;exact wpAny_truthy_list pl.isList (by simp only[cF];omega) ⟨H,I.tok _,by rw[lX r];exact q⟩
  ·subst e';obtain⟨aA,r,pl,hz⟩:=I.tuple hx;have bf:=r.length;exact truthy_tuple pl (by simp only[cF];omega) ⟨H,I.tok _,by rw[lX r];exact q⟩
  ·subst e';obtain⟨hz,hS,vs,r,m⟩:ao.length<=sizeLine/\(p==sysModules)=false/\∃vs,KV ao vs/\s.heap.DictOf (b_ X.prog X.w) p vs:=I.bc p _ hx;have bf:ao.length=vs.length:=Paired.length r;exact wpAny_truthy_dict hS m ∅ ⟨H,I.tok _,by rw[ua r];exact q⟩
 | _=>exact(show False from e).elim
theorem zW(ha:PE X a ta)(he:∀lQ,isTrue a X.env lQ=(do let v <- lQ;standAt a.pos;holding [v] (truthy v))):PT X a (λσ H Q=>ta σ H λx H'=>∃k,zV X.K x H' k/\Q k H'):=by
 intro aa s σ H Q I h;exact isTrue_plain (bV (ha aa s σ H _ I h) λv s1 ⟨x,H1,I1,r1,q1⟩=>Ih aa s1 σ H1 x v Q I1 r1 q1) (he _)
theorem vals1{x:V}{us:List Value}(r:aO [x] us):∃u,us=[u]/\RelV x u:=by
 cases r with
 | cons r1 r2=>cases r2;exact⟨_,rfl,r1⟩
theorem vals2{x y:V}{us:List Value}(r:aO [x,y] us):∃u w',us=[u,w']/\RelV x u/\RelV y w':=by
 cases r with
 | cons r1 r2 =>
  cases r2 with
  | cons r3 r4=>cases r4;exact⟨_,_,rfl,r1,r3⟩
theorem ye(hc:X.calm=true):dt X (.builtin "max") (λxs H Q=>∃i j,xs=[.int i,.int j]/\Q (.int (if j>i then j else i)) H):=by
 intro aa s σ H xs us Q I r h;obtain⟨i,j,rfl,q⟩:=h;obtain⟨u,w',rfl,⟨t,rfl⟩,⟨t',rfl⟩⟩:=vals2 r;refine max_two_ints (I.ok.hd hc) λh' tk k=>⟨_,H,I.kept k,?_,q⟩;by_cases hj:j>i
 ·rw[aU hj,aU hj];exact⟨_,rfl⟩
 ·rw[aX hj,aX hj];exact⟨_,rfl⟩
theorem nR:dt X (.type "int") (λxs H Q=>(∃i,xs=[.int i]/\Q (.int i) H)\/∃k,xs=[.bl k]/\Q (.int (if k then 1 else 0)) H):=by
 intro aa s σ H xs us Q I r h;rcases h with⟨i,rfl,q⟩|⟨k,rfl,q⟩
 ·obtain⟨u,rfl,t,rfl⟩:=vals1 r;exact call_int_int ⟨.int i,H,I,⟨_,rfl⟩,q⟩
 ·obtain⟨u,rfl,r1⟩:=vals1 r;cases r1;exact call_int_bool ⟨.int (if k then 1 else 0),H,I.tok _,⟨_,rfl⟩,q⟩
end
structure DE (h:Heap) (x dx C:Addr) (mA:Str->Option Value):Prop where
 obj:h.get? x=some (PySem.W.instObj C dx)
 ns:h.Ns1 dx mA
 ne:dx≠x
theorem yf{h:Heap}{dx:Addr}{mA:Str->Option Value}(n:h.Ns1 dx mA):∃od,h.get? dx=some od/\∀name,PySem.W.lookIn name od=some (mA name):=by
 obtain⟨o,es,ep,ho,hd,hk,_,hm⟩:=n;refine⟨o,ho,λname=>?_⟩;have e:=hm name;unfold nsFind findBy at e;rw[<- Array.find?_toList]at e;unfold PySem.W.lookIn;rw[hd];dsimp only;split
 ·rename_i y q
  rw[q]at e;exact oZ some e
 ·rename_i q
  rw[q]at e
  have a:es.toList.any (·.refKey)=false:=by
   rw[C5];intro y hy;obtain⟨z,t,RI⟩:=hk y (Array.mem_toList_iff.mp hy);simp[DictEntry.refKey,RI]
  have a':¬es.toList.any (·.refKey)=true:=by rw[a];exact au
  rw[aX a'];exact oZ some e
theorem DE.look{h:Heap}{x dx C:Addr}{mA:Str->Option Value}(I:DE h x dx C mA):∃od,PySem.W.InstAt h x (PySem.W.instObj C dx) C (some od)/\∀name,PySem.W.lookIn name od=some (mA name) :=
 let ⟨od,ho,hl⟩:=yf I.ns
 ⟨od,⟨I.obj,rfl,rfl,ho⟩,hl⟩
section
variable {prog:Program} {w:World} {A:Around} {E:Value->Shared->Prop} {s:Shared} {K:PySem.W.Frag} {x dx C f:Addr} {mA:Str->Option Value} {name:Str} {v:Value}
theorem pw{expr:Bool}{Q:Value->Shared->Prop}(X:K.In s.heap)(I:DE s.heap x dx C mA)(hg:PySem.W.plainGet K C name=true)(hh:PySem.W.hasDictIn K C=true)(ha:PySem.W.findIn K (.ref C) name=some none)(hv:mA name=some v)(MN:PySem.W.handedIn v=true)(h:Q v {s with toks:=s.toks+1}):wpAny (model prog w) A (getAttr (.ref x) name expr) Q E s:=by
 obtain⟨od,J,hl⟩:=I.look;exact PySem.W.get_value X J (PySem.W.plainGet_of hg).1 (PySem.W.findObj_own hh ha rfl (by rw[hl,hv])) MN h
end
theorem iT.pz{v:V}{o:Option Value}(r:iT (some v) o):∃u,o=some u/\RelV v u:=by
 cases o with
 | none=>exact(show False from r).elim
 | some u=>exact⟨u,rfl,r⟩
theorem iT.none_of{o:Option Value}(r:iT none o):o=none:=by
 cases o with
 | none=>rfl
 | some u=>exact(show False from r).elim
section
variable {P:Program} {w:World} {H H':Hp} {h h':Heap} {a C dx:Addr} {fs V6:List (Str×V)}
theorem DF(bc:iF P w H h)(e:H a=some (.ins C dx fs)):∃mA,DE h a dx C mA/\(∀f,iT (fs.lookup f) (mA f))/\PySem.Within mA (fs.map (·.1))/\fs.length<=1000/\H dx=some (.own a):=by
 obtain⟨d,z,ne,ob,mA,n,r,q⟩:=(show ba P w H h a (.ins C dx fs) from bc a _ e);exact⟨mA,⟨ob,n,ne⟩,r,q,z,d⟩
end
structure RJ (K:PySem.W.Frag) (C:Addr):Prop where
 pg:PySem.W.plainGet K C Str.empty=true
 hd:PySem.W.hasDictIn K C=true
 po:PySem.W.plainOver K C=true
 sa:PySem.W.findIn K (.ref C) "__setattr__" = some (some (.builtin "object.__setattr__"))
theorem RJ.get{K:PySem.W.Frag}{C:Addr}(c:RJ K C)(f:Str):PySem.W.plainGet K C f=true:=c.pg
section
variable {X:Cx} {aa:List (Addr×Obj)} {σ:St} {H:Hp} {s:Shared} {a C dx:Addr} {fs:List (Str×V)} {f:Str} {v:V} {A:Around} {E:Value->Shared->Prop}
theorem DG{prog:Program}{w:World}{env:Env}{e:Expr}{f:Str}{pos:Pos}{s:Shared}{Q:Value->Shared->Prop}(hb:attributeBase e f env (eval e env)=eval e env)(h:wpAny (model prog w) A (eval e env) (λo bL=>wpAny (model prog w) A (getAttr o f true) Q E bL) E s):wpAny (model prog w) A (eval (.Attribute e f pos) env) Q E s :=
 Attribute_any_ h (by rw[arm_eval_Attribute,hb])
end
section
variable {X:Cx} {o e value:Expr} {f:Str} {pos yg MP:Pos} {ta tv:TE}
noncomputable def MQ:V->V->Hp->VK->Prop:=λx y H Q=>∃i j,x=.int i/\y=.int j/\Q (.int (i-j)) H
end
section
variable {X:Cx} {aa:List (Addr×Obj)} {σ:St} {H:Hp} {s:Shared} {A:Around} {E:Value->Shared->Prop} {Q:Value->Shared->Prop} {c:Value} {b:Bool}
inductive j9 (K:PySem.W.Frag) (H:Hp):V->Value->Prop where
  | aK:j9 K H .aK (.type "NoneType")
  | bl (x:Bool):j9 K H (.bl x) (.type "bool")
  | int (i:Int):j9 K H (.int i) (.type "int")
  | str (x:Str):j9 K H (.str x) (.type "str")
  | Dj (x:UInt64):j9 K H (.Dj x) (.type "float")
  | lst {a:Addr} {xs:List V} (e:H a=some (.lst xs)):j9 K H (.ref a) (.type "list")
  | gA {a:Addr} {o:Obj} {xs:List V} (e:H a=some (.gA o (.lst xs))):j9 K H (.ref a) (.type "list")
  | tup {a:Addr} {xs:List V} (e:H a=some (.tup xs)):j9 K H (.ref a) (.type "tuple")
  | dK {a:Addr} {ao:List (bC×V)} (e:H a=some (.dK ao)):j9 K H (.ref a) (.type "dict")
  | dT {a:Addr} {ao:List (List bC×V)} (e:H a=some (.dT ao)):j9 K H (.ref a) (.type "dict")
  | ins {a C dx : Addr} {fs : List (Str × V)} (e : H a = some (.ins C dx fs)) (cl : RJ K C) (ha : PySem.W.findIn K (.ref C) "__class__" = some (some (.builtin "object.__class__")))
      (hn:PySem.W.specialIn K (.builtin "object.__class__") "__get__" = some (some (.builtin "getset_descriptor.__get__"))) (UR:PySem.W.takesIn K (.builtin "object.__class__")=some true)
      (hm:PySem.W.mroIn K C (.type "object")=some true):j9 K H (.ref a) (.ref C)
theorem yh{x:V}{u t:Value}(I:Inv X aa σ H s)(rx:RelV x u)(ty:j9 X.K H x t)(e:PySem.W.kitOne X.K t c=some b)(h:∀tk,Q (.bool b) {s with toks:=tk}):wpAny (model X.prog X.w) A (call (.builtin "isinstance") [u,c]) Q E s:=by
 cases ty with
 | aK=>cases (show u=Value.none from rx);exact la PySem.W.kitx_none I.iU True.intro e (λz=>nomatch z) h
 | bl y=>cases (show u=Value.bool y from rx);exact la PySem.W.kitx_bool I.iU True.intro e (λz=>nomatch z) h
 | int i=>obtain⟨t,q⟩:=(show ∃t,u=Value.int i t from rx);cases q;exact la PySem.W.kitx_int I.iU True.intro e (λz=>nomatch z) h
 | str y=>obtain⟨t,q⟩:=(show ∃t,u=Value.str y t from rx);cases q;exact la PySem.W.kitx_str I.iU True.intro e (λz=>nomatch z) h
 | Dj y=>obtain⟨t,q⟩:=(show ∃t,u=Value.float y t from rx);cases q;exact la PySem.W.kitx_float I.iU True.intro e (λz=>nomatch z) h
 | @lst a xs ea =>
  cases (show u=Value.ref a from rx);obtain⟨_,_,n,_,h1⟩:=(show ba X.prog X.w H s.heap a (.lst xs) from I.bc a _ ea);exact la PySem.W.kitx_list I.iU ⟨_,h1,rfl⟩ e (λz=>nomatch z) h
 | @gA a ob xs ea =>
  cases (show u=Value.ref a from rx);obtain⟨_,_,_,n,_,h1⟩:=(show ba X.prog X.w H s.heap a (.gA ob (.lst xs)) from I.bc a _ ea);exact la PySem.W.kitx_list I.iU ⟨_,h1,rfl⟩ e (λz=>nomatch z) h
 | @tup a xs ea =>
  cases (show u=Value.ref a from rx);obtain⟨_,_,_,p⟩:=(show ba X.prog X.w H s.heap a (.tup xs) from I.bc a _ ea);obtain⟨o,h1,h2,_⟩:=p;exact la PySem.W.kitx_tuple I.iU ⟨o,h1,h2⟩ e (λz=>nomatch z) h
 | @dK a ao ea =>
  cases (show u=Value.ref a from rx);obtain⟨_,_,vs,_,p⟩:=(show ba X.prog X.w H s.heap a (.dK ao) from I.bc a _ ea);obtain⟨o,es,ep,h1,h2,_⟩:=p;exact la PySem.W.kitx_dict I.iU ⟨o,h1,h2.1⟩ e (λz=>nomatch z) h
 | @dT a ao ea =>
  cases (show u=Value.ref a from rx);obtain⟨_,_,xs,_,o,es,ep,h1,h2,_⟩:=(show ba X.prog X.w H s.heap a (.dT ao) from I.bc a _ ea);exact la PySem.W.kitx_dict I.iU ⟨o,h1,h2.1⟩ e (λz=>nomatch z) h
 | @ins a C dx fs ea cl ha hn UR hm =>
  cases (show u=Value.ref a from rx);obtain⟨mA,O,_⟩:=DF I.bc ea;obtain⟨od,J,_⟩:=O.look;exact la (PySem.W.kitx_own (cl.get _) cl.hd ha hn UR hm) I.iU J e (λz=>nomatch z) h
end
structure fF (k:Nat) (A:Around):Prop where
 hd:A.handled=none
 dp:A.depth+3*k+5<recursionLimit
 un:A.units+16*k+200<cLine
 gd:A.guards=some []
theorem fF.mono{j k:Nat}{A:Around}(r:fF k A)(h:j<=k):fF j A:=⟨r.hd,by have:=r.dp;omega,by have:=r.un;omega,r.gd⟩
theorem fF.deeper{k:Nat}{A:Around}(r:fF (k+1) A)(env:Env):fF k (A.deeper env) :=
 ⟨r.hd,by have:=r.dp;show A.depth+1+3*k+5<_;omega,by have:=r.un;show A.units+3+16*k+200<_;omega,r.gd⟩
theorem ub{A:Around}{C:Addr}{us:List Value}{kw:List (Str×Value)}:(A.under (.builtin "type.__call__" ⟨.ref C::us,kw⟩)).depth=A.depth+1:=by
 first | rfl | simp[Around.under,Code.weight,Code.isCreation,Code.isGuard,Code.isCaller,Code.frames,Code.isFrame,guardIds]
theorem uc{A:Around}{C:Addr}{us:List Value}{kw:List (Str×Value)}:(A.under (.builtin "type.__call__" ⟨.ref C::us,kw⟩)).units=A.units+1:=by
 first | rfl | simp[Around.under,Code.cUnits,Code.frames,Code.isFrame]
theorem fF.make{k:Nat}{A:Around}(r:fF (k+1) A)(C:Addr)(us:List Value)(kw:List (Str×Value)):fF k (A.under (.builtin "type.__call__" ⟨.ref C::us,kw⟩)) :=
 ⟨r.hd,by have:=r.dp;rw[ub];omega,by have:=r.un;rw[uc];omega,by first | exact r.gd | (simpa[Around.under,Code.guards,Code.isGuard,guardIds,pushGuards]using r.gd)⟩
theorem fF.depth{k:Nat}{A:Around}(r:fF k A):A.depth<recursionLimit:=by have:=r.dp;omega
def RK:TA:=λ_ H Q=>Q [] H
noncomputable def MR(ta:TE)(tr:TA):TA:=λσ H Q=>ta σ H λx H1=>tr σ H1 λxs H2=>Q (x::xs) H2
section
variable {X:Cx} {e:Expr} {es:List Expr} {te:TE} {t:TA} {pos:Pos}
theorem iW:PA X [] RK:=λ_ _ _ _ H Q I h=>Calls.spliced_nil ⟨[],H,I,.nil,h⟩
theorem eL(ha:PE X e te)(hr:PA X es t)(hs:starEach (e::es) X.env=(false,eval e X.env)::starEach es X.env:=by rfl):PA X (e::es) (MR te t):=by
 intro pos aa s σ H Q I h;rw[hs];show wpAny _ _ (spliced ((false,eval e X.env)::backTo pos (starEach es X.env))) _ _ s;refine Calls.spliced_cons (bV (ha aa s σ H _ I h) ?_);rintro u s1 ⟨x,H1,I1,r1,q1⟩;exact bV (hr pos aa s1 σ H1 _ I1 q1) λus s2 ⟨xs,H2,I2,r2,q2⟩=>⟨x::xs,H2,I2,.cons r1 r2,q2⟩
def RL(t:TA):TE:=λσ H Q=>t σ H λxs H1=>xs.length<=sizeLine/\∀p,H1 p=none->Q (.ref p) (a_ H1 p (.tup xs))
def RM(t:TA):TE:=λσ H Q=>t σ H λxs H1=>xs.length<=sizeLine/\∀p,H1 p=none->Q (.ref p) (a_ H1 p (.lst xs))
theorem zX {x1} (h:PA X es t):PE X (.Tuple es x1 pos) (RL t):=by
 intro aa s σ H Q I hq;refine wpAny_Tuple_spliced (bV (h pos aa s σ H _ I hq) λus s1 ⟨xs,H1,I1,r,z,q⟩=>⟨by rw[<- r.length];exact z,?_⟩);have hf:H1 s1.heap.objs.size=none:=I1.bc.fresh (ar _);refine⟨.ref s1.heap.objs.size,a_ H1 s1.heap.objs.size (.tup xs),I1.laid (t':=s1.toks) (λb u e=>cA _ e) (ar _) ?_,rfl,q _ hf⟩;exact⟨z,us,r,⟨_,fm _ rfl,rfl,_,rfl⟩⟩
theorem Ii(h:PA X es t):PE X (.List es pos) (RM t):=by
 intro aa s σ H Q I hq;refine wpAny_List_spliced (bV (h pos aa s σ H _ I hq) λus s1 ⟨xs,H1,I1,r,z,q⟩=>⟨by rw[<- r.length];exact z,?_⟩);have hf:H1 s1.heap.objs.size=none:=I1.bc.fresh (ar _);refine⟨.ref s1.heap.objs.size,a_ H1 s1.heap.objs.size (.lst xs),I1.laid (t':=s1.toks) (λb u e=>cA _ e) (ar _) ?_,rfl,q _ hf⟩;exact⟨z,us,0,r,fm _ rfl⟩
end
abbrev Sp:=List V->Hp->VK->XK->Prop
abbrev vF:=List Env->Hp->Shared->XK->Value->Shared->Prop
structure rC (P:Program) (w:World) (K:PySem.W.Frag) (mg:Str->Option Value) (base:Heap) (A:Around) (outer:List Env) (s:Shared) (H:Hp):Prop where
 frames:A.frames=some outer
 mod:Mod K mg base
 bs:∀b o,base.get? b=some o->s.heap.get? b=some o/\H b=none
 CI:base.objs.size<=s.heap.objs.size
 j6:s.heap.FunFrames base outer
 F2:∀b∈x5 outer,H b=none
 bc:iF P w H s.heap
 bare:AllBare s.gens
def CE(outer:List Env)(P:Program)(w:World)(H:Hp)(s:Shared)(Q:VK)(u:Value)(s':Shared):Prop :=
 ∃v H',s'.os=s.os/\AllBare s'.gens/\Un (x5 outer) [] H H' s.heap s'.heap/\iF P w H' s'.heap/\RelV v u/\Q v H'
def CR(CX:vF)(outer:List Env)(P:Program)(w:World)(H:Hp)(s:Shared)(Q:VK)(E:XK)(r:Result)(s':Shared):Prop :=
 match r with
 | .ok (.ret u)=>CE outer P w H s Q u s'
 | .ok _=>False
 | .error e=>CX outer H s E e s'
structure eZ (P:Program) (w:World) (K:PySem.W.Frag) (mg:Str->Option Value) (base:Heap) (CX:vF) (k:Nat) (f:Addr) (fd:FuncData) (ps:List Str) (sp:Sp):Prop where
 len:∀vs H Q E,sp vs H Q E->vs.length=ps.length
 run:∀(A:Around)(outer:List Env)(s:Shared)(H:Hp)(args:Args)(us:List Value)(vs:List V)(Q:VK)(E:XK),fF k A->rC P w K mg base A outer s H->BindsTo s fd args (ps.zip us)->aO vs us->sp vs H Q E ->
  codeAny (model P w) A (.call (.ref f) args) (CR CX outer P w H s Q E) s
theorem eZ.mono{P:Program}{w:World}{K:PySem.W.Frag}{mg:Str->Option Value}{base:Heap}{CX:vF}{j k:Nat}{f:Addr}{fd:FuncData}{ps:List Str}{sp:Sp}(F:eZ P w K mg base CX j f fd ps sp)(h:j<=k):eZ P w K mg base CX k f fd ps sp:=⟨F.len,λA outer s H args us vs Q E hr=>F.run A outer s H args us vs Q E (hr.mono h)⟩
theorem rC.make{P:Program}{w:World}{K:PySem.W.Frag}{mg:Str->Option Value}{base:Heap}{A:Around}{outer:List Env}{s:Shared}{H:Hp}(e:rC P w K mg base A outer s H)(C:Addr)(us:List Value)(kw:List (Str×Value)):rC P w K mg base (A.under (.builtin "type.__call__" ⟨.ref C::us,kw⟩)) outer s H:=⟨by first | exact e.frames | (simpa[Around.under,Code.envs,Code.isFrame,pushEnvs]using e.frames),e.mod,e.bs,e.CI,e.j6,e.F2,e.bc,e.bare⟩
section
variable {X:Cx} {aa:List (Addr×Obj)} {σ:St} {H:Hp} {s s':Shared}
theorem Inv.DH(I:Inv X aa σ H s):rC X.prog X.w X.K X.mg X.base X.A X.stack s H :=
 ⟨I.ok.frames,I.ok.mod,I.bs,bJ I.ok.CI I.sz,I.stack,I.pf,I.bc,I.bare⟩
theorem Inv.after{Q:VK}{u:Value}(I:Inv X aa σ H s)(h:CE X.stack X.prog X.w H s Q u s'):EP X aa σ Q u s':=by
 obtain⟨v,H',os,bare,un,bc,r,q⟩:=h;obtain⟨hh,g,d,t,Wc⟩:=s';obtain rfl:Wc=s.os:=os;exact⟨v,H',I.call (h':=hh) (g':=g) (d':=d) (t':=t) (ch:=[]) un bc bare (λb z=>absurd z (by simp)),r,q⟩
end
noncomputable def F_(sp:Sp)(ud:List V)(E:XK)(t:TA):TE:=λσ H Q=>t σ H λvs H1=>sp (vs++ud) H1 Q E
noncomputable def Binds(K:PySem.W.Frag)(fd:FuncData)(ps:List Str)(ds:List Value):Prop :=
 ∀(s:Shared)(us:List Value),K.In s.heap->(us++ds).length=ps.length->BindsTo s fd ⟨us,[]⟩ (ps.zip (us++ds))
theorem Binds.all{K:PySem.W.Frag}{fd:FuncData}{ps:List Str}(h:∀us:List Value,us.length=ps.length->bindArgs fd ⟨us,[]⟩=pure (ps.zip us)):Binds K fd ps []:=λs us _ hl=>by
 rw[qZ]at hl⊢;exact .of_eq (h us hl)
noncomputable def iX(CX:vF)(X:Cx)(E:XK):Prop:=∀(aa:List (Addr×Obj))(σ:St)(H:Hp)(s:Shared)(e:Value)(s':Shared),Inv X aa σ H s->CX X.stack H s E e s'->X.xe e s'
section
variable {X:Cx} {CX:vF} {k:Nat} {f C:Addr} {fd:FuncData} {ps:List Str} {sp:Sp} {ud:List V} {ds:List Value} {E:XK} {x m:Str} {p pos yi:Pos} {e o:Expr} {es:List Expr} {ta:TE} {t:TA}
theorem Ij{aa:List (Addr×Obj)}{σ:St}{H:Hp}{s:Shared}{Q:VK}{us:List Value}{vs:List V}(F:eZ X.prog X.w X.K X.mg X.base CX k f fd ps sp)(hr:fF k X.A)(hb:Binds X.K fd ps ds)(hd:aO ud ds)(hx:iX CX X E)(I:Inv X aa σ H s)(r:aO vs us)(h:sp (vs++ud) H Q E):wpAny (model X.prog X.w) X.A (call (.ref f) us) (EP X aa σ Q) X.xe s:=by
 have r2:aO (vs++ud) (us++ds):=r.append hd;have hl:(us++ds).length=ps.length:=by rw[<- r2.length];exact F.len _ _ _ _ h
 refine wpAny_call (xT (F.run X.A X.stack s H ⟨us,[]⟩ (us++ds) (vs++ud) Q E hr I.DH (hb s us I.iU hl) r2 h) λr s' hq=>?_)
 cases r with
 | error e=>exact hx aa σ H s e s' I hq
 | ok fl =>
  cases fl with
  | ret u=>exact I.after hq
  | next=>exact False.elim hq
  | brk=>exact False.elim hq
  | cont=>exact False.elim hq
theorem DI(F:eZ X.prog X.w X.K X.mg X.base CX k f fd ps sp)(hr:fF k X.A)(hg:Gl X x)(hm:X.mg x=some (.ref f))(hk:PySem.W.keepIn X.K (.ref f)=true)(hb:Binds X.K fd ps ds)(hd:aO ud ds)(hx:iX CX X E)(ha:PA X (e::es) t) (yj:(x==("__debug__" : Str))=false:=by decide) (he:starEach (e::es) X.env=(false,eval e X.env)::starEach es X.env:=by rfl) (j_:(backTo pos (starEach es X.env)).any (·.1)=false:=by rfl):PE X (.Call (.Name x p) (e::es) [] pos) (F_ sp ud E t):=by
 intro aa s σ H Q I h;refine zm (ig I hg hm ?_ yj);refine Hs (h₀:=X.base) I.ok.mod.Mj hk (bV (ha pos aa s σ H _ I h) λus s1 ⟨vs,H1,I1,r,q⟩=>⟨I1.iU,?_⟩) he j_;exact Ij F hr hb hd hx I1 r q
end
structure il (N P:List Str) (sc:Scope):Prop where
 kind:sc.kind=.function
 co:sc.isCoroutine=false
 gen:sc.isGenerator=false
 nd:N.Nodup
 pre:N.take P.length=P
 par:∀x∈P,sc.names.lookup x=some .local\/sc.names.lookup x=some .cell
 zY:∀y∈sc.names,y.2≠.free
theorem nS{kindOf:Str->Option NameKind}{x:Str}:∀{rD:List (Str×Value)}{m:Str->Option Value},(∀v,(x,v)∉rD)->bindL kindOf rD m x=m x
 | [],_,_=>rfl
 | (n,v)::r,m,h=>by
  unfold bindL;rw[nS λw hw=>h w (dB _ hw)];split
  ·have:x≠n:=by rintro rfl;exact h v dD
   simp[this]
  ·rfl
theorem nU{kindOf:Str->Option NameKind}{x:Str}:∀{rD:List (Str×Value)}{m:Str->Option Value},(∀v,(x,v)∉rD)->bindC kindOf rD m x=m x
 | [],_,_=>rfl
 | (n,v)::r,m,h=>by
  unfold bindC;rw[nU λw hw=>h w (dB _ hw)];split
  ·rfl
  ·have:x≠n:=by rintro rfl;exact h v dD
   simp[this]
theorem nV{kindOf:Str->Option NameKind}{x:Str}{v:Value}:∀{P:List Str}{vs:List Value}{i:Nat}{m:Str->Option Value},P.Nodup->P[i]?=some x->vs[i]?=some v->kindOf x=some .local->bindL kindOf (P.zip vs) m x=some v
 | [],_,_,_,_,h,_,_=>by simp at h
 | _::_,[],_,_,_,_,h,_=>by simp at h
 | p::P,w::vs,0,m,nd,h1,h2,hk=>by
  simp at h1 h2;subst h1;subst h2;show bindL kindOf ((p,w)::P.zip vs) m p=_;unfold bindL;rw[nS λv hv=>(j2.mp nd).1 (List.of_mem_zip hv).1,aU hk];simp
 | p::P,w::vs,i+1,m,nd,h1,h2,hk=>by
  show bindL kindOf ((p,w)::P.zip vs) m x=_;unfold bindL;exact nV (i:=i) (j2.mp nd).2 (by simpa using h1) (by simpa using h2) hk
theorem nW{kindOf:Str->Option NameKind}{x:Str}{v:Value}:∀{P:List Str}{vs:List Value}{i:Nat}{m:Str->Option Value},P.Nodup->P[i]?=some x->vs[i]?=some v->kindOf x≠some .local->bindC kindOf (P.zip vs) m x=some v
 | [],_,_,_,_,h,_,_=>by simp at h
 | _::_,[],_,_,_,_,h,_=>by simp at h
 | p::P,w::vs,0,m,nd,h1,h2,hk=>by
  simp at h1 h2;subst h1;subst h2;show bindC kindOf ((p,w)::P.zip vs) m p=_;unfold bindC;rw[nU λv hv=>(j2.mp nd).1 (List.of_mem_zip hv).1,aX hk];simp
 | p::P,w::vs,i+1,m,nd,h1,h2,hk=>by
  show bindC kindOf ((p,w)::P.zip vs) m x=_;unfold bindC;exact nW (i:=i) (j2.mp nd).2 (by simpa using h1) (by simpa using h2) hk
noncomputable def start(N:List Str)(vs:List V):St:=vs.map some++List.replicate (N.length-vs.length) none
noncomputable def rE(CX:vF)(P:Program)(w:World)(K:PySem.W.Frag)(mg:Str->Option Value)(base:Heap)(N:List Str)(qual:Str)(scope:Scope)(f:Addr)(cd:Value)(A:Around)(outer:List Env)(s:Shared)(H:Hp)(E:XK):Cx where
 prog:=P
 w:=w
 K:=K
 mg:=mg
 base:=base
 A:=A.deeper (envOfC qual scope s.heap.objs.size f cd)
 N:=N
 dr:=s
 lO:=H
 env:=envOfC qual scope s.heap.objs.size f cd
 outer:=outer
 stack:=envOfC qual scope s.heap.objs.size f cd::outer
 ex:=[]
 calm:=true
 fn:=λ_=>true
 pn:=[]
 xe:=λe s'=>wpAny (model P w) (A.deeper (envOfC qual scope s.heap.objs.size f cd)) (leaving (envOfC qual scope s.heap.objs.size f cd) e) (λ_ MS=>CX outer H s E e MS) (λe' MS=>CX outer H s E e' MS) s'
theorem rF{sc:Scope}{n:Nat}{x:Str}(h:sc.names.lookup x=some .cell):∃c,(cellsFrom n sc.names []).lookup x=some c:=by
 have q:=PySem.W.cellsFrom_some sc.names n [] (.inl h);exact xv.mp q
theorem yk{CX:vF}{P:Program}{w:World}{K:PySem.W.Frag}{mg:Str->Option Value}{base:Heap}{N ps:List Str}{qual:Str}{scope:Scope}{f:Addr}{cd:Value}{A:Around}{outer:List Env}{s s1:Shared}{H:Hp}{E:XK}{us:List Value}{vs:List V}(S:il N ps scope)(hd:A.handled=none)(e0:rC P w K mg base A outer s H)(hl:vs.length=ps.length)(r:aO vs us)(x:InCallC s s.heap.objs.size (bindL (envOfC qual scope s.heap.objs.size f cd).kindOf (ps.zip us) λ_=>none) (cellsFrom (s.heap.objs.size+1) scope.names []) (bindC (envOfC qual scope s.heap.objs.size f cd).kindOf (ps.zip us) λ_=>none) s1):Inv (rE CX P w K mg base N qual scope f cd A outer s H E) [] (start N vs) H s1:=by
 have j_:ps.length<=N.length:=by have:=oZ List.length S.pre;rw[fD]at this;omega
 obtain⟨h1,tk,rfl,hk⟩:=x.done;have MT:∀b:Addr,b∉(rE CX P w K mg base N qual scope f cd A outer s H E).ex:=λb z=>absurd (show b∈([]:List Addr) from z) (by simp)
 refine⟨⟨e0.mod,S.kind,rfl,rfl,ar _,λy z c h1 h2=>?_,λy hy=>?_,λy c _ h=>?_,λ_=>hd,Around.frames_deeper e0.frames,.inr ⟨rfl,rfl⟩,λb z=>absurd z (MT b),e0.bs,e0.CI,λb _ _=>MT b,λb z=>absurd z (MT b),e0.j6,e0.F2⟩,
  rfl,e0.bare,Un.kept hk,⟨_,x.toInCall.ns,λi y v h1 h2 h3=>?_⟩,λy c h=>⟨_,x.cell y c h⟩,e0.bc.fresh (ar _),λy c h=>?_,λp hp=>absurd (show p∈([]:List (Addr×Obj)) from hp) (by simp),e0.bc.kept hk,?_⟩
 ·exact name_of_addr x.apart (jY h1) (jY h2)
 ·have hy:scope.names.lookup y=some .cell\/scope.names.lookup y=some .free:=hy;rcases hy with hy | hy
  ·exact rF hy
  ·exact absurd rfl (S.zY _ (jY hy))
 ·exact oY (x.above y c (jY h))
 ·have hi:i<vs.length:=by
   unfold start at h2;by_cases hi:i<vs.length
   ·exact hi
   ·rw[m9 (by simpa using hi)]at h2;rw[List.getElem?_replicate]at h2;split at h2<;>cases h2
  have ha:vs[i]?=some v:=by
   unfold start at h2;rw[gL (by simpa using hi),ji]at h2
   cases e:vs[i]? with
   | none=>rw[e]at h2;cases h2
   | some a=>rw[e]at h2;cases h2;rfl
  obtain⟨u,hu,rv⟩:=r.get ha
  have hp:ps[i]?=some y:=by
   rw[<- S.pre,List.getElem?_take_of_lt ∅];exact h1
  have US:ps.Nodup:=by rw[<- S.pre];exact S.nd.sublist (List.take_sublist _ _)
  refine⟨u,rv,?_⟩;rcases S.par y (dC hp)with k | k
  ·exact .inl ⟨k,nV US hp hu k⟩
  ·obtain⟨c,e⟩:=rF (n:=s.heap.objs.size+1) k;refine .inr ⟨.inl k,c,e,?_⟩;have q:=x.cell y c e;rw[nW US hp hu (by show scope.names.lookup y≠_;rw[k];decide)]at q;exact q
 ·exact e0.bc.fresh (oY (x.above y c (jY h)))
 ·unfold start;show _=N.length;rw[bY,cM,CU];omega
theorem Ga {CX : vF} {P : Program} {w : World} {K : PySem.W.Frag} {mg : Str -> Option Value} {base : Heap} {k : Nat} {f : Addr} {name qual : Str} {params : Arguments} {body : List Stmt} {scope : Scope} {dV kV doc pm lY ct oc : Value} {an od : Option Addr}
    {pA:Array (Option Value)} {N ps:List Str} {sp:Sp} (lk:K.lookup f=some ⟨oc,od,.func (PySem.W.fnOf name qual params body scope dV kV doc pm an lY ct),pA⟩) (CK:PySem.W.codeIn K lY qual=true) (S:il N ps scope)
    (len:∀vs H Q E,sp vs H Q E->vs.length=ps.length)
    (zZ:∀(A:Around)(outer:List Env)(s:Shared)(H:Hp)(vs:List V)(Q:VK)(E:XK),fF k (A.deeper (envOfC qual scope s.heap.objs.size f lY))->sp vs H Q E ->
      ∃t,nP (rE CX P w K mg base N qual scope f lY A outer s H E) body t/\t {nx:=λ_ H'=>Q .aK H',rt:=Q} (start N vs) H) :
    eZ P w K mg base CX (k+1) f (PySem.W.fnOf name qual params body scope dV kV doc pm an lY ct) ps sp:=by
  refine⟨len,λA outer s H args us vs Q E hr e0 hb r rG=>?_⟩;have hl:=len _ _ _ _ rG;have KX:K.In s.heap:=e0.mod.Mj.keeps λb o e=>(e0.bs b o e).1;have lim:s.heap.NoLimit:=e0.mod.nolimit.keeps λb o e=>(e0.bs b o e).1
  have z0:∀y∈ps.zip us,scope.names.lookup y.1=some .local\/(scope.names.lookup y.1=some .cell/\((cellsFrom (s.heap.objs.size+1) scope.names []).lookup y.1).isSome=true):=λ⟨n,v⟩ hy=>by
    rcases S.par n (List.of_mem_zip hy).1 with q | q
    · exact .inl q
    · exact .inr ⟨q,PySem.W.cellsFrom_some _ _ _ (.inl q)⟩
  refine codeAny_call_function hr.depth (KX _ _ lk) rfl S.co S.gen rfl (PySem.W.codeRec_of KX CK) (hb _ _ _ _ ?_);refine wpAny_newFunctionEnv_cells S.kind z0 λenv he s1 x=>?_;subst he;refine⟨lim.keeps x.toInCall.keep,codeAny_func ?_⟩;obtain⟨t,ht,hq⟩:=zZ A outer s H vs Q E (hr.deeper _) rG;have I:Inv (rE CX P w K mg base N qual scope f lY A outer s H E) [] (start N vs) H s1:=yk S hr.hd e0 hl r x;refine j4 (ht [] s1 (start N vs) H _ I hq) (λfl s' hs=>?_) λe s' hs=>hs
  have eY:∀{cD:St}{H':Hp}{v:V}{u:Value},Inv (rE CX P w K mg base N qual scope f lY A outer s H E) [] cD H' s'->RelV v u->Q v H'->CE outer P w H s Q u s' :=
    λ{cD H' v u} J rv q=>⟨v,H',J.os,J.bare,J.base,J.bc,rv,q⟩
  cases fl with
  | ret u =>
    obtain⟨v,cD,H',J,rv,q⟩:=hs;exact eY J rv q
  | next =>
    obtain⟨cD,H',J,q⟩:=hs;exact eY (v:=V.aK) (u:=Value.none) J rfl q
  | brk =>
    obtain⟨_,_,_,q⟩:=hs;exact False.elim q
  | cont =>
    obtain⟨_,_,_,q⟩:=hs;exact False.elim q
section
variable {X:Cx} {x:Str} {p pos:Pos} {e:Expr} {es:List Expr} {t:TA} {id T:String} {r:List V->Hp->VK->Prop}
noncomputable def RN(r:List V->Hp->VK->Prop)(t:TA):TE:=λσ H Q=>t σ H λvs H1=>r vs H1 Q
theorem e8(hc:dt X (.builtin id) r)(hg:Gl X x)(hm:X.mg x=none)(hv:bootBuiltins x=some (.builtin id))(ha:PA X (e::es) t) (hn:x≠ "__name__" := by decide) (yj:(x==("__debug__" : Str))=false:=by decide) (he:starEach (e::es) X.env=(false,eval e X.env)::starEach es X.env:=by rfl) (j_:(backTo pos (starEach es X.env)).any (·.1)=false:=by rfl):PE X (.Call (.Name x p) (e::es) [] pos) (RN r t):=by
 intro aa s σ H Q I h;refine zm (lS I hg hm hv ?_ hn yj);exact PyProof.Rows.callWith_builtin1 (bV (ha pos aa s σ H _ I h) λus s1 ⟨vs,H1,I1,r1,q1⟩=>hc aa s1 σ H1 vs us Q I1 r1 q1) he j_
theorem ip(hc:dt X (.type T) r)(hg:Gl X x)(hm:X.mg x=none)(hv:bootBuiltins x=some (.type T))(ha:PA X (e::es) t) (hn:x≠ "__name__" := by decide) (yj:(x==("__debug__" : Str))=false:=by decide) (he:starEach (e::es) X.env=(false,eval e X.env)::starEach es X.env:=by rfl) (j_:(backTo pos (starEach es X.env)).any (·.1)=false:=by rfl):PE X (.Call (.Name x p) (e::es) [] pos) (RN r t):=by
 intro aa s σ H Q I h;refine zm (lS I hg hm hv ?_ hn yj);exact Hb (bV (ha pos aa s σ H _ I h) λus s1 ⟨vs,H1,I1,r1,q1⟩=>hc aa s1 σ H1 vs us Q I1 r1 q1) he j_
end
section
variable {κ:Type} [DecidableEq κ]
noncomputable def jn(ao:List (κ×V))(k:κ):Option V:=(ao.find? λkv=>decide (kv.1=k)).map (·.2)
noncomputable def eM(ao:List (κ×V))(k:κ)(v:V):List (κ×V) :=
 if (ao.any λkv=>decide (kv.1=k))=true then ao.map (λkv=>if kv.1=k then (kv.1,v) else kv) else ao++[(k,v)]
theorem jo{p:κ×V}{r:List (κ×V)}{k:κ}(e:p.1=k):jn (p::r) k=some p.2:=by simp[jn,j3,e]
theorem gS{p:κ×V}{r:List (κ×V)}{k:κ}(e:¬p.1=k):jn (p::r) k=jn r k:=by simp[jn,j3,e]
theorem rH(k:κ):∀ao:List (κ×V),(ao.any λkv=>decide (kv.1=k))=(jn ao k).isSome
 | []=>rfl
 | p::r=>by
  rw[xQ];by_cases e:p.1=k
  ·simp only[jo e,bB e,Bool.true_or,Option.isSome_some]
  ·rw[gS e,bx e,Bool.false_or];exact rH k r
theorem gU(ao:List (κ×V))(k:κ)(v:V):(eM ao k v).length<=ao.length+1:=by
 unfold eM;split
 ·rw[cM];omega
 ·rw[bY,fE,q_];omega
theorem iT.fT{o:Option V}{u:Option Value}(r:iT o u):o.isSome=u.isSome:=by
 cases o with
 | none=>cases u with
  | none=>rfl
  | some _=>exact(show False from r).elim
 | some _=>cases u with
  | none=>exact(show False from r).elim
  | some _=>rfl
theorem KV.val{ao:List (κ×V)}{vs:List (κ×Value)}(r:KV ao vs)(k:κ):iT (jn ao k) (valueAt vs k):=by
 unfold KV at r
 induction r with
 | nil=>exact True.intro
 | @cons p q ps qs h t ih =>
  obtain⟨h1,h2⟩:=h;by_cases e:p.1=k
  ·have e':q.1=k:=h1.symm.trans e;have b:valueAt (q::qs) k=some q.2:=by simp[valueAt,j3,e']
   rw[jo e,b];exact h2
  ·have e':¬q.1=k:=λz=>e (h1.trans z);have b:valueAt (q::qs) k=valueAt qs k:=by simp[valueAt,j3,e']
   rw[gS e,b];exact ih
theorem KV.any{ao:List (κ×V)}{vs:List (κ×Value)}(r:KV ao vs)(k:κ):(ao.any λkv=>decide (kv.1=k))=vs.any λkv=>decide (kv.1=k):=by
 unfold KV at r
 induction r with
 | nil=>rfl
 | cons h t ih=>rw[xQ,xQ,ih,h.1]
theorem KV.Ik{ao:List (κ×V)}{vs:List (κ×Value)}(r:KV ao vs)(k:κ){y:V}{u:Value}(ry:RelV y u):KV (ao.map λkv=>if kv.1=k then (kv.1,y) else kv) (vs.map λkv=>if kv.1=k then (kv.1,u) else kv):=by
 unfold KV at r⊢
 induction r with
 | nil=>exact .nil
 | @cons p q ps qs h t ih =>
  rw[iC,iC];refine .cons ?_ ih;obtain⟨h1,h2⟩:=h;by_cases e:p.1=k
  ·rw[aU e,aU (h1.symm.trans e)];exact⟨h1,ry⟩
  ·rw[aX e,aX (λz=>e (h1.trans z))];exact⟨h1,h2⟩
theorem KV.put{ao:List (κ×V)}{vs:List (κ×Value)}(r:KV ao vs)(k:κ){y:V}{u:Value}(ry:RelV y u):KV (eM ao k y) (stored vs k u):=by
 unfold eM stored;rw[r.any k];by_cases e:(vs.any λkv=>decide (kv.1=k))=true
 ·rw[aU e,aU e];exact r.Ik k ry
 ·rw[aX e,aX e];exact Paired.snoc r ⟨rfl,ry⟩
theorem KV.length{ao:List (κ×V)}{vs:List (κ×Value)}(r:KV ao vs):ao.length=vs.length:=Paired.length r
end
theorem nX{P:Program}{w:World}{k:bC}{u:Value}(r:RelV (kV k) u):(b_ P w).is k u=true:=by
 cases k with
 | inl i=>obtain⟨t,e⟩:=(show ∃t,u=Value.int i t from r);subst e;exact rm P w i t
 | inr x=>obtain⟨t,e⟩:=(show ∃t,u=Value.str x t from r);subst e;exact rn P w x t
theorem nY{P:Program}{w:World}:∀{ks:List bC}{us:List Value},aO (ks.map kV) us->ItemsAre (b_ P w) ks us
 | [],_,r=>by rw[xU]at r;cases r;exact .nil
 | k::ks,_,r=>by
  rw[iC]at r
  cases r with
  | cons h t=>exact .cons (nX h) (nY t)
abbrev KT(H:Hp):List (List bC×V)->List (List bC×Addr×Value)->Prop:=Paired λp q=>p.1=q.1/\H q.2.1=some (.tup (p.1.map kV))/\RelV p.2 q.2.2
theorem KT.val{H:Hp}{ao:List (List bC×V)}{xs:List (List bC×Addr×Value)}(r:KT H ao xs)(k:List bC):iT (jn ao k) ((atKey xs k).map (·.2)):=by
 induction r with
 | nil=>exact True.intro
 | @cons p q ps qs h t ih =>
  obtain⟨h1,_,h2⟩:=h;by_cases e:p.1=k
  ·have e':q.1=k:=h1.symm.trans e;have b:atKey (q::qs) k=some q.2:=by simp[atKey,j3,e']
   rw[jo e,b];exact h2
  ·have e':¬q.1=k:=λz=>e (h1.trans z);have b:atKey (q::qs) k=atKey qs k:=by simp[atKey,j3,e']
   rw[gS e,b];exact ih
theorem KT.Ik{H:Hp}{ao:List (List bC×V)}{xs:List (List bC×Addr×Value)}(r:KT H ao xs)(k:List bC){y:V}{u:Value}(ry:RelV y u):KT H (ao.map λkv=>if kv.1=k then (kv.1,y) else kv) (xs.map (putAt k u)):=by
 induction r with
 | nil=>exact .nil
 | @cons p q ps qs h t ih =>
  rw[iC,iC];refine .cons ?_ ih;obtain⟨h1,h2,h3⟩:=h;unfold putAt;by_cases e:p.1=k
  ·rw[aU e,aU (h1.symm.trans e)];exact⟨h1,h2,ry⟩
  ·rw[aX e,aX (λz=>e (h1.trans z))];exact⟨h1,h2,h3⟩
theorem KT.put{H:Hp}{ao:List (List bC×V)}{xs:List (List bC×Addr×Value)}(r:KT H ao xs)(k:List bC){b:Addr}{y:V}{u:Value}(hb:H b=some (.tup (k.map kV)))(ry:RelV y u):KT H (eM ao k y) (storedH xs k b u):=by
 have e:(ao.any λkv=>decide (kv.1=k))=(atKey xs k).isSome:=by
  rw[rH,(r.val k).fT,Hv]
 unfold eM storedH;rw[e];by_cases q:(atKey xs k).isSome=true
 ·rw[aU q,aU q];exact r.Ik k ry
 ·rw[aX q,aX q];exact Paired.snoc r ⟨rfl,hb,ry⟩
theorem KT.keeps{H H':Hp}{ao:List (List bC×V)}{xs:List (List bC×Addr×Value)}(r:KT H ao xs)(ht:∀b ys,H b=some (.tup ys)->H' b=some (.tup ys)):KT H' ao xs :=
 Paired.HF r λ_ _ z=>⟨z.1,ht _ _ z.2.1,z.2.2⟩
section
variable {P:Program} {w:World} {H:Hp} {h:Heap} {a:Addr}
theorem Gb{u:HO}(ok:iF P w H h)(e:Rd H a u):ba P w H h a u:=e.ok ok
theorem rJ{ao:List (bC×V)}(ok:iF P w H h)(e:Rd H a (.dK ao)):ao.length<=sizeLine/\(a==sysModules)=false/\∃vs,KV ao vs/\h.DictOf (b_ P w) a vs :=
 show ba P w H h a (.dK ao) from Gb ok e
theorem vG{ao:List (bC×V)}(ok:iF P w H h)(e:H a=some (.dK ao)):ao.length<=sizeLine/\(a==sysModules)=false/\∃vs,KV ao vs/\h.DictOf (b_ P w) a vs:=rJ ok (.inl e)
theorem lZ{ks:List bC}(ok:iF P w H h)(e:H a=some (.tup (ks.map kV))):(tupleKind (b_ P w)).is h ks a:=by
 obtain⟨_,aA,r,o,h1,h2,n,h3⟩:=(show ba P w H h a (.tup (ks.map kV)) from ok a _ e);exact⟨o,aA.toArray,n,h1,h2,h3,by simpa using nY r⟩
theorem rK{ao:List (List bC×V)}(ok:iF P w H h)(e:Rd H a (.dT ao)):ao.length<=sizeLine/\(a==sysModules)=false/\∃xs,KT H ao xs/\h.DictOfH (tupleKind (b_ P w)) a xs:=by
 obtain⟨z,y,xs,r,o,es,ep,h1,h2,h3,h4,h5⟩:=(show ba P w H h a (.dT ao) from Gb ok e);refine⟨z,y,xs,r,o,es,ep,h1,h2,h3,h4,λx hx=>?_,h5⟩
 have all:∀{l:List (List bC×V)}{m:List (List bC×Addr×Value)},KT H l m->∀x∈m,(tupleKind (b_ P w)).is h x.1 x.2.1:=by
  intro l m q
  induction q with
  | nil=>intro x hx;exact nomatch hx
  | @cons p q ps qs hq t ih =>
   intro x hx;rcases cq.mp hx with e | hx
   ·subst e;exact lZ ok (by rw[<- hq.1];exact hq.2.1)
   ·exact ih x hx
 exact all r x hx
theorem MU{ao:List (List bC×V)}(ok:iF P w H h)(e:H a=some (.dT ao)):ao.length<=sizeLine/\(a==sysModules)=false/\∃xs,KT H ao xs/\h.DictOfH (tupleKind (b_ P w)) a xs:=rK ok (.inl e)
end
def jq(H:Hp)(a:Addr)(y:V)(r:Option V):Prop :=
 (∃ao k,Rd H a (.dK ao)/\y=kV k/\r=jn ao k)\/∃ao k b,Rd H a (.dT ao)/\y=.ref b/\H b=some (.tup (k.map kV))/\r=jn ao k
def ue(H:Hp)(a:Addr)(y v:V)(H':Hp):Prop :=
 (∃ao k,H a=some (.dK ao)/\y=kV k/\ao.length<sizeLine/\H'=a_ H a (.dK (eM ao k v))) \/
 ∃ao k b,H a=some (.dT ao)/\y=.ref b/\H b=some (.tup (k.map kV))/\ao.length<sizeLine/\H'=a_ H a (.dT (eM ao k v))
theorem jq.k{H:Hp}{a:Addr}{ao:List (bC×V)}{k:bC}(e:H a=some (.dK ao)):jq H a (kV k) (jn ao k):=.inl ⟨ao,k,.inl e,rfl,rfl⟩
theorem ue.k{H:Hp}{a:Addr}{ao:List (bC×V)}{k:bC}{v:V}(e:H a=some (.dK ao))(hl:ao.length<sizeLine):ue H a (kV k) v (a_ H a (.dK (eM ao k v))):=.inl ⟨ao,k,e,rfl,hl,rfl⟩
theorem ue.t{H:Hp}{a b:Addr}{ao:List (List bC×V)}{k:List bC}{v:V}(e:H a=some (.dT ao))(eb:H b=some (.tup (k.map kV)))(hl:ao.length<sizeLine):ue H a (.ref b) v (a_ H a (.dT (eM ao k v))):=.inr ⟨ao,k,b,e,rfl,eb,hl,rfl⟩
section
variable {X:Cx} {aa:List (Addr×Obj)} {σ:St} {H:Hp} {s:Shared} {a:Addr} {y v:V} {u r:Value} {o:Option V} {A:Around} {E:Value->Shared->Prop}
theorem Inv.big(I:Inv X aa σ H s):sysModules<s.heap.objs.size:=by
 have h:mainGlobals<s.heap.objs.size:=(I.mod.glob.keeps I.bk).lt;exact Nat.lt_trans (by decide) h
theorem nZ{Q:Value->Shared->Prop}(hu:A.units+1<cLine)(I:Inv X aa σ H s)(g:jq H a y (some v))(ry:RelV y u)(h:∀w' s',Inv X aa σ H s'->RelV v w'->Q w' s'):wpAny (model X.prog X.w) A (getItem (.ref a) u) Q E s:=by
 rcases g with⟨ao,k,e,ey,l⟩|⟨ao,k,b,e,ey,eb,l⟩
 ·subst ey;obtain⟨z,hd,vs,l5,dd⟩:=rJ I.bc e;obtain⟨w',hw,ym⟩:=iT.pz (v:=v) (o:=valueAt vs k) (by rw[l];exact l5.val k);exact wpAny_getItem_of (nX ry) dd.mapOf hw (h w' _ (I.tok _) ym)
 ·subst ey;cases (show u=Value.ref b from ry);obtain⟨z,hd,xs,l5,dd⟩:=rK I.bc e;obtain⟨w',hw,ym⟩:=iT.pz (v:=v) (o:=(atKey xs k).map (·.2)) (by rw[l];exact l5.val k);obtain⟨p,hp,Wd⟩:=CT.mp hw;refine wpAny_getItem_heap (C1 hu) (lZ I.bc eb) dd hp ?_;rw[Wd];exact h w' _ (I.tok _) ym
theorem MV{Q:Value->Shared->Prop}(hu:A.units+1<cLine)(I:Inv X aa σ H s)(g:jq H a y o)(ry:RelV y u)(h:∀s',Inv X aa σ H s'->Q (.bool o.isSome) s'):wpAny (model X.prog X.w) A (compareOp .In u (.ref a)) Q E s:=by
 rcases g with⟨ao,k,e,ey,l⟩|⟨ao,k,b,e,ey,eb,l⟩
 ·subst ey;obtain⟨z,hd,vs,l5,dd⟩:=rJ I.bc e;refine wpAny_in_of (nX ry) hd dd.mapOf ?_;rw[<- (l5.val k).fT,<- l];exact h _ (I.tok _)
 ·subst ey;cases (show u=Value.ref b from ry);obtain⟨z,hd,xs,l5,dd⟩:=rK I.bc e;refine wpAny_in_heap (C1 hu) (lZ I.bc eb) hd dd ?_;have q:=(l5.val k).fT;rw[Hv]at q;rw[<- q,<- l];exact h _ (I.tok _)
theorem vH{Q:Value->Shared->Prop}(hu:A.units+1<cLine)(I:Inv X aa σ H s)(g:jq H a y o)(ry:RelV y u)(h:∀s',Inv X aa σ H s'->Q (.bool (!o.isSome)) s'):wpAny (model X.prog X.w) A (compareOp .NotIn u (.ref a)) Q E s:=by
 rcases g with⟨ao,k,e,ey,l⟩|⟨ao,k,b,e,ey,eb,l⟩
 ·subst ey;obtain⟨z,hd,vs,l5,dd⟩:=rJ I.bc e;refine wpAny_notIn_of (nX ry) hd dd.mapOf ?_;rw[<- (l5.val k).fT,<- l];exact h _ (I.tok _)
 ·subst ey;cases (show u=Value.ref b from ry);obtain⟨z,hd,xs,l5,dd⟩:=rK I.bc e;refine wpAny_notIn_heap (C1 hu) (lZ I.bc eb) hd dd ?_;have q:=(l5.val k).fT;rw[Hv]at q;rw[<- q,<- l];exact h _ (I.tok _)
theorem pB{h':Heap}{t':Nat}{ob:HO}(I:Inv X aa σ H s)(mu:Mh (H a))(hs:Heap.SameBut a s.heap h')(he:∃q,h'.get? a=some q)(new:ba X.prog X.w (a_ H a ob) h' a ob):Inv X aa σ (a_ H a ob) {s with heap:=h',toks:=t'} :=
 I.write (x:=a) (e:=a) mu (.inl rfl) (λb q hb z=>(hs.2 b hb).trans z) he new
theorem z5{P:Program}{w:World}{H':Hp}{h':Heap}{ao:List (bC×V)}{vs:List (bC×Value)}(z:ao.length<=sizeLine)(hd:(a==sysModules)=false)(l5:KV ao vs)(dd:h'.DictOf (b_ P w) a vs):ba P w H' h' a (.dK ao):=⟨z,hd,vs,l5,dd⟩
theorem n_{H':Hp}{Q:Unit->Shared->Prop}(hu:A.units+1<cLine)(I:Inv X aa σ H s)(g:ue H a y v H')(ry:RelV y u)(rv:RelV v r)(h:∀s',Inv X aa σ H' s'->Q () s'):wpAny (model X.prog X.w) A (setItem (.ref a) u r) Q E s:=by
 rcases g with⟨ao,k,e,ey,l,eH⟩|⟨ao,k,b,e,ey,eb,l,eH⟩
 ·subst ey eH;obtain⟨z,hd,vs,l5,dd⟩:=vG I.bc e;have hz:vs.length<=sizeLine:=by rw[<- l5.length];exact z
  have hl:(eM ao k v).length<=sizeLine:=by have:=gU ao k v;omega
  refine wpAny_setItem_pairs (hsz:=hz) (nX ry) dd λh' Il hs=>h _ ?_;have he:∃q,h'.get? a=some q:=let ⟨q,_,_,hq,_⟩:=Il;⟨q,hq⟩
  exact pB I (by rw[e];exact True.intro) hs he (z5 hl hd (l5.put k rv) Il)
 ·subst ey eH;cases (show u=Value.ref b from ry);obtain⟨z,hd,xs,l5,dd⟩:=MU I.bc e;have hz:xs.length<=sizeLine:=by rw[<- Paired.length l5];exact z
  have hl:(eM ao k v).length<=sizeLine:=by have:=gU ao k v;omega
  refine wpAny_setItem_heap (hsz:=hz) (C1 hu) (lZ I.bc eb) dd λh' Il hs=>h _ ?_;obtain⟨q,es,ep,hq,h2,h3,h4,_,h5⟩:=Il;refine pB I (by rw[e];exact True.intro) hs ⟨q,hq⟩ ⟨hl,hd,_,(l5.put k eb rv).keeps λc ys ec=>?_,q,es,ep,hq,h2,h3,h4,h5⟩;rw[ai (Mg ec e (λz=>nomatch z))];exact ec
end
theorem kQ{X:Cx}{aa:List (Addr×Obj)}{σ:St}{H:Hp}{s:Shared}{a:Addr}{y:V}{o:Option V}(I:Inv X aa σ H s)(g:jq H a y o):s.TypeIs (.ref a) "dict" := by
 rcases g with⟨ao,k,e,_,_⟩|⟨ao,k,b,e,_,_,_⟩
 ·obtain⟨_,_,vs,_,dd⟩:=rJ I.bc e;exact dd.typeIs
 ·obtain⟨_,_,xs,_,dd⟩:=rK I.bc e;exact dd.typeIs
theorem rL{P:Program}{w:World}{H:Hp}(h:Heap)(hb:sysModules<h.objs.size):ba P w H (h.push {cls:=.type "dict",data:=.dict #[]}) h.objs.size (.dK []) :=
 ⟨jk _,iR.mpr (dq (eW hb)),[],.nil,Heap.DictOf.new h⟩
theorem z6{P:Program}{w:World}{H:Hp}(h:Heap)(hb:sysModules<h.objs.size):ba P w H (h.push {cls:=.type "dict",data:=.dict #[]}) h.objs.size (.dT []) :=
 ⟨jk _,iR.mpr (dq (eW hb)),[],.nil,_,#[],0,fm _ rfl,⟨rfl,rfl,rfl⟩,rfl,rfl,xO⟩
def Im:TE:=λ_ H Q=>∀p,H p=none->Q (.ref p) (a_ H p (.dK []))
def Io:TE:=λ_ H Q=>∀p,H p=none->Q (.ref p) (a_ H p (.dT []))
section
variable {X:Cx} {pos:Pos}
theorem z7:PE X (.Dict [] [] pos) Im:=λaa s σ H Q I h =>
 wpAny_Dict_empty ⟨.ref s.heap.objs.size,_,I.laid (a:=s.heap.objs.size) (o:=.dK []) (t':=s.toks) (λ_ _ q=>cA _ q) (ar _) (rL s.heap I.big),rfl,h _ (I.bc.fresh (ar _))⟩
theorem z8:PE X (.Dict [] [] pos) Io:=λaa s σ H Q I h =>
 wpAny_Dict_empty ⟨.ref s.heap.objs.size,_,I.laid (a:=s.heap.objs.size) (o:=.dT []) (t':=s.toks) (λ_ _ q=>cA _ q) (ar _) (z6 s.heap I.big),rfl,h _ (I.bc.fresh (ar _))⟩
end
noncomputable def gk:List (TE×TE)->St->Hp->(List (V×V)->Hp->Prop)->Prop
 | [],_,H,Q=>Q [] H
 | (tk,tv)::r,σ,H,Q=>tk σ H λx H1=>tv σ H1 λy H2=>gk r σ H2 λps H3=>Q ((x,y)::ps) H3
abbrev VV:List (V×V)->List (Value×Value)->Prop:=Paired λp q=>RelV p.1 q.1/\RelV p.2 q.2
def Ld(X:Cx)(pos:Pos)(keys:List (Option Expr))(l7:List Expr)(l9:List (TE×TE)):Prop :=
 ∀(aa:List (Addr×Obj))(s:Shared)(σ:St)(H:Hp)(Q:List (V×V)->Hp->Prop),Inv X aa σ H s->gk l9 σ H Q ->
  wpAny (model X.prog X.w) X.A (evalPairs (pairTrees keys l7 X.env pos)) (λvs s'=>∃ps H',Inv X aa σ H' s'/\VV ps vs/\Q ps H') X.xe s
theorem DJ{X:Cx}{pos:Pos}:Ld X pos [] [] []:=λaa s σ H Q I h=>pairTrees_nil_walk ⟨[],H,I,.nil,h⟩
theorem z9{X:Cx}{pos:Pos}{k v:Expr}{ks:List (Option Expr)}{vs:List Expr}{tk tv:TE}{l9:List (TE×TE)}(hk:PE X k tk)(hv:PE X v tv)(hr:Ld X pos ks vs l9):Ld X pos (some k::ks) (v::vs) ((tk,tv)::l9):=λaa s σ H Q I h =>
 pairTrees_cons_walk (bV (hk aa s σ H _ I h) λu s1 ⟨x,H1,I1,rx,q1⟩=>bV (hv aa s1 σ H1 _ I1 q1) λw2 s2 ⟨y,H2,I2,ry,q2⟩ =>
  bV (hr aa s2 σ H2 _ I2 q2) λws s3 ⟨ps,H3,I3,l5,q3⟩=>⟨(x,y)::ps,H3,I3,.cons ⟨rx,ry⟩ l5,q3⟩)
def fG(ao lg:List (bC×V)):List (bC×V):=lg.foldl (λaI kv=>eM aI kv.1 kv.2) ao
theorem KV.merge:∀{lg:List (bC×V)}{rs:List (bC×Value)}{ao:List (bC×V)}{vs:List (bC×Value)},KV lg rs->KV ao vs->KV (fG ao lg) (merged vs rs):=by
 intro lg rs ao vs r;unfold KV at r
 induction r generalizing ao vs with
 | nil=>intro q;exact q
 | @cons p q ps qs h t ih =>
  intro r0
  have e:KV (eM ao p.1 p.2) (stored vs q.1 q.2):=by
   have:=r0.put p.1 h.2;rw[<- h.1];exact this
  exact ih e
theorem iG:∀(lg ao:List (bC×V)),(fG ao lg).length<=ao.length+lg.length
 | [],ao=>by show ao.length<=ao.length+0;omega
 | p::r,ao=>by
  have h1:=iG r (eM ao p.1 p.2);have h2:=gU ao p.1 p.2;show(fG (eM ao p.1 p.2) r).length<=_;rw[fE];omega
theorem l_{P:Program}{w:World}:∀{ao:List (bC×V)}{ws:List (Value×Value)},VV (ao.map λkv=>(kV kv.1,kv.2)) ws->∃rs,Carries (b_ P w) ws rs/\KV ao rs
 | [],_,r=>by rw[xU]at r;cases r;exact⟨[],True.intro,.nil⟩
 | p::ao,_,r=>by
  rw[iC]at r
  cases r with
  | @cons a b as bs h t =>
   obtain⟨rs,c,q⟩:=l_ (P:=P) (w:=w) t;obtain⟨b1,b2⟩:=b;exact⟨(p.1,b2)::rs,⟨nX h.1,rfl,c⟩,.cons ⟨rfl,h.2⟩ q⟩
def MW(l9:List (TE×TE)):TE:=λσ H Q=>∀p,H p=none->gk l9 σ (a_ H p (.dK [])) λps H2=>H2 p=some (.dK [])/\∃ao:List (bC×V),ps=ao.map (λkv=>(kV kv.1,kv.2))/\ao.length<=15/\Q (.ref p) (a_ H2 p (.dK (fG [] ao)))
theorem DK{X:Cx}{pos:Pos}{keys:List (Option Expr)}{l7:List Expr}{l9:List (TE×TE)}(h:Ld X pos keys l7 l9)(uf:keys.all (·.isSome)=true)(hl:keys.length=l7.length)(h0:keys≠[])(Le:keys.length<=15):PE X (.Dict keys l7 pos) (MW l9):=by
 intro aa s σ H Q I q;have hn:=I.bc.fresh (ar s.heap.objs.size);have I1:=I.laid (a:=s.heap.objs.size) (o:=.dK []) (h':=s.heap.push {cls:=.type "dict",data:=.dict #[]}) (t':=s.toks) (λ_ _ q=>cA _ q) (ar _) (rL s.heap I.big);refine wpAny_Dict_walk (knd:=b_ X.prog X.w) uf hl h0 Le (bV (h aa _ σ _ _ I1 (q _ hn)) ?_);rintro ws s2 ⟨ps,H2,I2,l5,e,ao,rfl,lk,q2⟩;obtain⟨rs,c,rk⟩:=l_ (P:=X.prog) (w:=X.w) l5;obtain⟨z,hd,vs0,r0,dd⟩:=vG I2.bc e;cases r0;refine⟨rs,c,dd,λh' Il hs=>⟨.ref s.heap.objs.size,_,?_,rfl,q2⟩⟩
 have hz:(fG [] ao).length<=sizeLine:=by
  have h1:=iG ao [];rw[q_]at h1;rw[xW];omega
 have he:∃q,h'.get? s.heap.objs.size=some q:=let ⟨q,_,_,hq,_⟩:=Il;⟨q,hq⟩
 exact pB I2 (by rw[e];exact True.intro) hs he (z5 hz hd (rk.merge .nil) Il)
end L2
namespace HT
open PySem PyProof.Rows
section
open PySem.SeqAt
open PySem.AutoSeq1 (wpAny_loadPart')
open PySem.MeetsSeq PySem.MeetsSeq2 PySem.MeetsSeq3
end
section
variable {prog:Program} {w:World} {A:Around} {E:Value->Shared->Prop} {s:Shared}
theorem DL{t b:Addr}{vs ws:List Value}{Q:Value->Shared->Prop}(ht:IsTup s.heap t vs.toArray)(hb:IsTup s.heap b ws.toArray)(hv:vs≠[])(h1:ws=[]->Q (.ref t) s) (h2:ws≠[]->Q (.ref s.heap.objs.size) {s with heap:=s.heap.push {cls:=.type "tuple",data:=.seq (vs++ws).toArray}}) (hsz:vs.length+ws.length<=sizeLine):wpAny (model prog w) A (binaryOp .Add (.ref t) (.ref b)) Q E s:=by
 obtain⟨⟨cls,dd,data,sl⟩,ho,hc,n,hd⟩:=id ht;obtain⟨⟨RO,P6,data2,P7⟩,Iq,Gd,n2,MX⟩:=id hb;simp only at hc hd Gd MX;subst hc hd Gd MX;have e:vs.toArray++ws.toArray=(vs++ws).toArray:=by simp
 by_cases hw:ws=[]
 ·exact concat_meets ⟨_,ho,rfl⟩ ⟨_,Iq,rfl⟩ noFill_tuple_add seq_tuple_add Hf He (Hd _ _)
   (tuple_addW1 t b vs.toArray ws.toArray n n2 dd P6 sl P7 (by simpa using hv) (by simp[hw])) ⟨ho,Iq,h1 hw⟩
 ·refine concat_meets ⟨_,ho,rfl⟩ ⟨_,Iq,rfl⟩ noFill_tuple_add seq_tuple_add Hf He (Hd _ _)
   (tuple_addW2 t b vs.toArray ws.toArray n n2 dd P6 sl P7 (by simpa using hv) (by simpa using hw) (by rw[cF,cF];exact hsz)) ⟨ho,Iq,?_⟩
  rw[e];exact h2 hw
noncomputable def cE(n d:Nat):Option Int->Nat
 | none=>d
 | some v=>if v<0 then (v+(n:Int)).toNat else min v.toNat n
theorem rM(n d:Nat):cE n d none=d:=rfl
theorem pC(n d k:Nat):cE n d (some (k:Int))=min k n:=by
 show(if (k:Int)<0 then ((k:Int)+(n:Int)).toNat else min (k:Int).toNat n)=min k n;rw[aX ∅,oV]
theorem Ir(n d:Nat)(hd:d<=n)(o:Option Int):cE n d o<=n:=by
 cases o with
 | none=>exact hd
 | some v =>
  show(if v<0 then (v+(n:Int)).toNat else min v.toNat n)<=n;by_cases hv:v<0
  ·rw[aU hv];omega
  ·rw[aX hv];exact Nat.min_le_right _ _
theorem vI(v:Int)(n d:Nat):(if v<0 then max (v+(n:Int)) 0 else min v (n:Int))=((cE n d (some v):Nat):Int):=by
 show(if v<0 then max (v+(n:Int)) 0 else min v (n:Int))=(((if v<0 then (v+(n:Int)).toNat else min v.toNat n):Nat):Int);by_cases hv:v<0
 ·simp only[aU hv];omega
 ·simp only[aX hv];omega
theorem ug(lo hi:Option Int)(n:Nat):Builtin.Slice.sliceAdjust lo hi 1 (n:Int)=(((cE n 0 lo:Nat):Int),((cE n n hi:Nat):Int)):=by
 have h1:¬((1:Int)<0):=∅;unfold Builtin.Slice.sliceAdjust;simp only[h1,ni];refine Prod.ext ?_ ?_
 ·cases lo with
  | none=>rfl
  | some v=>exact vI v n 0
 ·cases hi with
  | none=>rfl
  | some v=>exact vI v n n
theorem uh(i j:Nat):Builtin.Slice.slicePlaces (i:Int) (j:Int) 1=j-i:=by
 unfold Builtin.Slice.slicePlaces;have h1:(1:Int)>0:=∅;simp only[h1,dE,Int.ediv_one];split<;>omega
theorem ma{v:Value}{o:Option Int}{Q:Option Int->Shared->Prop}(p:IsPart v o)(h:Q o s):wpAny (model prog w) A (Builtin.Slice.slicePartIndex v) Q E s:=by
 cases p with
 | none=>exact slicePart_none h
 | int i t=>exact slicePart_int h
theorem fU{sl:Addr}{vl vu:Value}{lo hi:Option Int}{n:Nat}{Q:Int×Int×Nat->Shared->Prop}(hs:s.heap.IsSliceOf sl vl vu .none)(pl:IsPart vl lo)(pu:IsPart vu hi)(h:Q (((cE n 0 lo:Nat):Int),1,cE n n hi-cE n 0 lo) s):wpAny (model prog w) A (Builtin.Slice.sliceApplied (.ref sl) (pure (n:Int))) Q E s:=by
 obtain⟨os,Iu,P8,MY⟩:=id hs;unfold Builtin.Slice.sliceApplied Builtin.Slice.sliceFields;refine aq (aq (gE Iu MY (x:=vl) rfl (aq (gE Iu MY (x:=vu) rfl (aq (gE Iu MY (x:=.none) rfl (aZ ?_)))))));refine aq (slicePart_none ?_);show wpAny _ _ (if ((1:Int)==0)=true then _ else _) _ _ s;rw[aX (by decide)];refine aq (ma pl (aq (ma pu (aq (aZ ?_)))));show wpAny _ _ (match Builtin.Slice.sliceAdjust lo hi 1 (n:Int)with | (lo,hi)=>pure (lo,(1:Int),Builtin.Slice.slicePlaces lo hi 1)) _ _ s;rw[ug lo hi n];show wpAny _ _ (pure (((cE n 0 lo:Nat):Int),(1:Int),Builtin.Slice.slicePlaces ((cE n 0 lo:Nat):Int) ((cE n n hi:Nat):Int) 1)) _ _ s;rw[uh];exact aZ h
theorem z_(xs:Array Value)(i k:Nat):((List.range k).filterMap λ(m:Nat)=>xs[((i:Int)+(m:Int)*1).toNat]?).toArray=((xs.toList.drop i).take k).toArray:=by
 have e:(λ(m:Nat)=>xs[((i:Int)+(m:Int)*1).toNat]?)=λm=>xs[i+m]?:=by
  funext m;have:((i:Int)+(m:Int)*1).toNat=i+m:=∅;rw[this]
 rw[e];have:=pick_run xs i k;rw[List.filterMap_map]at this;have e2:((λx=>xs[x]?)∘λx=>i+x)=λm=>xs[i+m]?:=rfl;rw[e2]at this;rw[this]
theorem jr{t sl:Addr}{items:Array Value}{vl vu:Value}{lo hi:Option Int}{Q:Value->Shared->Prop}(ht:IsTup s.heap t items)(hs:s.heap.IsSliceOf sl vl vu .none)(pl:IsPart vl lo)(pu:IsPart vu hi)(hw:¬(cE items.size 0 lo=0/\cE items.size items.size hi=items.size)) (h:Q (.ref s.heap.objs.size) {s with heap:=s.heap.push {cls:=.type "tuple",data:=.seq ((items.toList.drop (cE items.size 0 lo)).take (cE items.size items.size hi-cE items.size 0 lo)).toArray}}) (hsz:items.size<=sizeLine):wpAny (model prog w) A (getItem (.ref t) (.ref sl)) Q E s:=by
 have vJ:sizeOk (.seq ((items.toList.drop (cE items.size 0 lo)).take (cE items.size items.size hi-cE items.size 0 lo)).toArray):=by
  show((items.toList.drop (cE items.size 0 lo)).take (cE items.size items.size hi-cE items.size 0 lo)).toArray.size<=sizeLine;rw[cF,fD,kZ,Hn];omega
 have hj:cE items.size items.size hi<=items.size:=Ir _ _ (ar _) hi;obtain⟨os,Iu,P8,MY⟩:=id hs;have RP:s.TypeIs (.ref sl) "slice" := ⟨os,Iu,P8⟩;unfold getItem
 try with_reducible refine nh ?_
 first | refine aq (aZ ?_) | skip
 refine aq (wpAny_sequenceKey ht.typeIs (by decide) ?_)
 refine aq (xx (name:=Str.ofString "__getitem__") ht.typeIs xu
  (xG xu ht.typeIs entry_tuple_getitem ?_ (args_tuple_getitem _ _)))
 show wpAny _ _ (Builtin.Tuple.tupleItemsOf (.ref t) >>= _) _ _ s;refine aq (tupleItemsOf_ ht ?_);refine aq (wpAny_typeOf RP ?_);rw[aU (by decide)];refine aq (fU hs pl pu ?_)
 have We:¬((((cE items.size 0 lo:Nat):Int)==0&&(1:Int)==1&&(cE items.size items.size hi-cE items.size 0 lo)==items.size)=true):=by
  intro q;rw[av,av]at q;have q1:((cE items.size 0 lo:Nat):Int)=0:=eq_of_beq q.1.1;have q2:cE items.size items.size hi-cE items.size 0 lo=items.size:=eq_of_beq q.2;exact hw ⟨∅,∅⟩
 show wpAny _ _ (if (((cE items.size 0 lo:Nat):Int)==0&&(1:Int)==1&&(cE items.size items.size hi-cE items.size 0 lo)==items.size)=true then _ else _) _ _ s;rw[aX We,z_]
 first
  | exact aq (m:=Builtin.Tuple.tupleExact _) (qX (aZ ⟨_,rfl,aZ h⟩) vJ)
  | exact aq (m:=Builtin.Tuple.tupleExact _) (qX (aq (aZ (aZ ⟨_,rfl,aZ h⟩))) vJ)
  | exact aq (aq (m:=Builtin.Tuple.tupleExact _) (qX (aZ (aZ ⟨_,rfl,aZ h⟩)) vJ))
  | exact aq (aq (m:=Builtin.Tuple.tupleExact _) (qX (aZ ⟨_,rfl,aZ h⟩) vJ))
end
end HT
namespace L2
open PySem PySem.Spec PyProof.Rows
abbrev TO:=St->Hp->(Option Int->Hp->Prop)->Prop
noncomputable def PO(X:Cx)(e:Option Expr)(t:TO):Prop :=
 ∀(aa:List (Addr×Obj))(s:Shared)(σ:St)(H:Hp)(Q:Option Int->Hp->Prop),Inv X aa σ H s->t σ H Q ->
  wpAny (model X.prog X.w) X.A (evalPart e X.env) (λu s'=>∃o H',Inv X aa σ H' s'/\IsPart u o/\Q o H') X.xe s
def DM:TO:=λ_ H Q=>Q none H
noncomputable def MZ(t:TE):TO:=λσ H Q=>t σ H λx H1=>∃i,x=.int i/\Q (some i) H1
section
variable {X:Cx} {e:Expr} {te:TE} {lo hi:Option Expr} {tl th:TO} {pos p2:Pos}
theorem DN:PO X none DM:=by
 intro aa s σ H Q I h;rw[evalPart_none];exact aZ ⟨none,H,I,.none,h⟩
theorem DO(h:PE X e te):PO X (some e) (MZ te):=by
 intro aa s σ H Q I hw;rw[evalPart_some];refine bV (h aa s σ H _ I hw) ?_;rintro u s1 ⟨x,H1,I1,r1,q1⟩;obtain⟨i,rfl,q⟩:=q1;obtain⟨t,rfl⟩:=r1;exact⟨some i,H1,I1,.int i t,q⟩
def M_(X:Cx)(r:V->Option Int->Option Int->Hp->VK->Prop):Prop :=
 ∀(aa:List (Addr×Obj))(s:Shared)(σ:St)(H:Hp)(x:V)(v vl vu:Value)(lo hi:Option Int)(sl:Addr)(Q:VK),Inv X aa σ H s->RelV x v->s.heap.IsSliceOf sl vl vu .none->IsPart vl lo->IsPart vu hi->r x lo hi H Q ->
  ∃T id,typeLookup (.type T) "__getitem__" = pure (some (.builtin id))/\s.TypeIs v T/\wpAny (model X.prog X.w) X.A (getItem v (.ref sl)) (EP X aa σ Q) X.xe s
noncomputable def Wf(r:V->Option Int->Option Int->Hp->VK->Prop)(te:TE)(tl th:TO):TE:=λσ H Q=>te σ H λx H1=>tl σ H1 λl H2=>th σ H2 λu H3=>r x l u H3 Q
theorem Aa{r:V->Option Int->Option Int->Hp->VK->Prop}(hr:M_ X r)(he:PE X e te)(hl:PO X lo tl)(hu:PO X hi th):PE X (.Subscript e (.Slice lo hi none p2) pos) (Wf r te tl th):=by
 intro aa s σ H Q I h;refine Subscript_ (bV (he aa s σ H _ I h) ?_);rintro v s1 ⟨x,H1,I1,r1,q1⟩;refine wpAny_Slice (bV (hl aa s1 σ H1 _ I1 q1) λvl s2 ⟨l,H2,I2,pl,q2⟩=>bV (hu aa s2 σ H2 _ I2 q2) λvu s3 ⟨u,H3,I3,pu,q3⟩=>?_);rw[evalPart_none];refine aZ ?_;have I4:Inv X aa σ H3 {s3 with heap:=s3.heap.push {cls:=.type "slice",data:=.fields #[vl,vu,.none]}}:=I3.kept (t':=s3.toks) λb ob q=>cA _ q;obtain⟨T,id,hT,ht,hg⟩:=hr aa {s3 with heap:=s3.heap.push {cls:=.type "slice",data:=.fields #[vl,vu,.none]}} σ H3 x v vl vu l u s3.heap.objs.size Q I4 r1 (Heap.IsSliceOf.new ..) pl pu q3;show wpAny (model X.prog X.w) X.A (subscriptTail e (.Slice lo hi none p2) v (.ref s3.heap.objs.size)) (EP X aa σ Q) X.xe {s3 with heap:=s3.heap.push {cls:=.type "slice",data:=.fields #[vl,vu,.none]}};exact tail_any (ops:=[.ref s3.heap.objs.size,v]) ht hT hg (by with_unfolding_all rfl)
def rN(xs:List V)(lo hi:Option Int):List V:=(xs.drop (HT.cE xs.length 0 lo)).take (HT.cE xs.length xs.length hi-HT.cE xs.length 0 lo)
theorem kR(xs:List V)(lo hi:Option Int):(rN xs lo hi).length<=xs.length:=by
 unfold rN;rw[fD,kZ];omega
def RQ(K:PySem.W.Frag):V->Option Int->Option Int->Hp->VK->Prop:=λx lo hi H Q=>∃a xs,x=.ref a/\fS K H a xs /\
 ¬(HT.cE xs.length 0 lo=0/\HT.cE xs.length xs.length hi=xs.length)/\∀p,H p=none->Q (.ref p) (a_ H p (.tup (rN xs lo hi)))
theorem Iv:M_ X (RQ X.K):=by
 intro aa s σ H x v vl vu lo hi sl Q I rx hs pl pu h;obtain⟨a,xs,rfl,hx,hw,q⟩:=h;cases rx;obtain⟨aA,r,ht,hz⟩:=I.tuple hx;have bf:aA.toArray.size=xs.length:=by rw[cF];exact r.length.symm
 refine⟨"tuple",_,xu.lookup,ht.typeIs,?_⟩;refine HT.jr ht hs pl pu (by rw[bf];exact hw) ?_ (by rw[bf];exact hz);rw[bf];refine⟨.ref s.heap.objs.size,_,I.laid (t':=s.toks) (o:=.tup (rN xs lo hi)) (λb ob q=>cA _ q) (ar _) ?_,rfl,q _ (I.bc.fresh (ar _))⟩;exact⟨bJ (kR xs lo hi) hz,_,(r.drop (HT.cE xs.length 0 lo)).take (HT.cE xs.length xs.length hi-HT.cE xs.length 0 lo),IsTup.new _ _⟩
def Na(K:PySem.W.Frag):R2:=λx y H Q=>∃a b xs ys,x=.ref a/\y=.ref b/\fS K H a xs/\fS K H b ys/\xs≠[]/\xs.length+ys.length<=sizeLine /\
 (ys=[]->Q (.ref a) H)/\(ys≠[]->∀p,H p=none->Q (.ref p) (a_ H p (.tup (xs++ys))))
theorem aO.pE{xs:List V}{us:List Value}(r:aO xs us):us=[]↔xs=[]:=by
 cases r with
 | nil=>simp
 | cons _ _=>simp
theorem DP:ik X (binaryOp .Add) (Na X.K):=by
 intro aa s σ H x y v u Q I rx ry h;obtain⟨a,b,xs,ys,rfl,rfl,ha,hb,hx,hz,q1,q2⟩:=h;cases rx;cases ry;obtain⟨aA,r1,p1,_⟩:=I.tuple ha;obtain⟨Ab,r2,p2,_⟩:=I.tuple hb;refine HT.DL p1 p2 (λz=>hx (r1.pE.mp z)) (λz=>⟨.ref a,H,I,rfl,q1 (r2.pE.mp z)⟩) (λz=>?_) (by rw[<- r1.length,<- r2.length];exact hz);refine⟨.ref s.heap.objs.size,_,I.laid (t':=s.toks) (o:=.tup (xs++ys)) (λb ob q=>cA _ q) (ar _) ?_,rfl,q2 (λw=>z (r2.pE.mpr w)) _ (I.bc.fresh (ar _))⟩;exact⟨by rw[bY];exact hz,_,r1.append r2,IsTup.new _ _⟩
end
noncomputable def DQ(n:Nat)(i:Int):Option Nat:=if 0<=i then (if i<n then some i.toNat else none) else if -(n:Int)<=i then some (i+n).toNat else none
def nq{α:Type}(xs:List α)(i:Int):Option α:=(DQ xs.length i).bind λj=>xs[j]?
theorem vK{n:Nat}{i:Int}{j:Nat}(h:DQ n i=some j):seqIndex? i n=some j/\j<n/\-(n:Int)<=i/\i<n:=by
 unfold DQ at h;by_cases h0:0<=i
 ·rw[aU h0]at h;by_cases h1:i<n
  ·rw[aU h1]at h;have e:i.toNat=j:=cu h;exact⟨by rw[seqIndex_of h0 h1,e],∅,∅,h1⟩
  ·rw[aX h1]at h;cases h
 ·rw[aX h0]at h;by_cases h1:-(n:Int)<=i
  ·rw[aU h1]at h;have e:(i+n).toNat=j:=cu h;exact⟨by rw[seqIndex_neg ∅ h1,e],∅,h1,∅⟩
  ·rw[aX h1]at h;cases h
theorem pF{α:Type}{xs:List α}{i:Int}{v:α}(h:nq xs i=some v):∃j,seqIndex? i xs.length=some j/\xs[j]?=some v/\j<xs.length/\-(xs.length:Int)<=i/\i<xs.length:=by
 unfold nq at h
 cases e:DQ xs.length i with
 | none=>rw[e]at h;cases h
 | some j =>
  rw[e]at h;obtain⟨h1,h2,h3,h4⟩:=vK e;exact⟨j,h1,h,h2,h3,h4⟩
noncomputable def vL(b:Expr):Prop:=∀o i,subscripted b false o i=operate [o,i] (getItem o i)
def Nb(X:Cx)(r:R2):Prop :=
 ∀(value jt:Expr)(aa:List (Addr×Obj))(s:Shared)(σ:St)(H:Hp)(x y:V)(v u:Value)(Q:VK),Inv X aa σ H s->RelV x v->RelV y u->r x y H Q ->
  subscripted jt false v u=operate [v,u] (getItem v u)->wpAny (model X.prog X.w) X.A (subscriptTail value jt v u) (EP X aa σ Q) X.xe s
def Lf(X:Cx)(id:String)(r:V->List V->Hp->VK->Prop):Prop :=
 ∀(aa:List (Addr×Obj))(s:Shared)(σ:St)(H:Hp)(x:V)(xs:List V)(v:Value)(us:List Value)(Q:VK),Inv X aa σ H s->RelV x v->aO xs us->r x xs H Q ->
  wpAny (model X.prog X.w) X.A (call (.builtin id) (v::us)) (EP X aa σ Q) X.xe s
section
variable {X:Cx} {a b:Expr} {ta tb:TE} {pos:Pos}
theorem Nc{r:R2}(hr:Nb X r)(ha:PE X a ta)(hb:PE X b tb)(hs:vL b):PE X (.Subscript a b pos) (CL r ta tb):=by
 intro aa s σ H Q I h;exact Subscript_ (HW ha hb I h λv u s2 x y H2 I2 rx ry q=>hr a b aa s2 σ H2 x y v u Q I2 rx ry q (hs _ _))
def RS(K:PySem.W.Frag):R2:=λx y H Q=>∃p xs i v,x=.ref p/\y=.int i/\fv K H p xs/\nq xs i=some v/\Q v H
def RT(K:PySem.W.Frag):R2:=λx y H Q=>∃p xs i v,x=.ref p/\y=.int i/\fS K H p xs/\nq xs i=some v/\Q v H
def RU:R2:=λx y H Q=>∃z i c,x=.str z/\y=.int i/\z.length<=sizeLine/\nq z.cps.toList i=some c/\Q (.str ⟨#[c]⟩) H
theorem DR:Nb X (RS X.K):=by
 intro value jt aa s σ H x y v u Q I rx ry h hs;obtain⟨p,xs,i,z,rfl,rfl,hq,he,q⟩:=h;cases rx;obtain⟨t,rfl⟩:=ry;obtain⟨aA,r,pl,hz⟩:=I.list hq;obtain⟨j,h1,h2,h3,h4,h5⟩:=pF he;obtain⟨w,ew,ym⟩:=r.get h2;have hl:=r.length;have hn:=iV;have eY:EP X aa σ Q w s:=⟨z,H,I,ym,q⟩;by_cases h0:0<=i
 ·have hj:i.toNat=j:=by
   rw[seqIndex_of h0 h5]at h1;exact cu h1
  exact item_listR pl.isList h0 ∅ (by rw[hj];simpa using ew) eY hs
 ·have hj:(i+(aA.toArray.size:Int)).toNat=j:=by
   rw[seqIndex_neg ∅ h4]at h1;rw[cF,<- hl];exact cu h1
  exact subscriptTail_builtinR (x:=w) pl.isList.typeIs slot_list_getitem.lookup
   (wpAny_getItem_list_neg (Q:=λr s'=>r=w/\EP X aa σ Q r s') pl.isList ∅ (by rw[cF]<;>omega) ∅ (by rw[hj];simpa using ew) ⟨rfl,eY⟩) hs
theorem Iw:Nb X (RT X.K):=by
 intro value jt aa s σ H x y v u Q I rx ry h hs;obtain⟨p,xs,i,z,rfl,rfl,hq,he,q⟩:=h;cases rx;obtain⟨t,rfl⟩:=ry;obtain⟨aA,r,pl,hz⟩:=I.tuple hq;obtain⟨j,h1,h2,h3,h4,h5⟩:=pF he;obtain⟨w,ew,ym⟩:=r.get h2;have hl:=r.length;have hn:=iV;have eY:EP X aa σ Q w s:=⟨z,H,I,ym,q⟩
 exact subscriptTail_builtinR (x:=w) pl.typeIs slot_tuple_getitem.lookup
  (getItem_tuple (j:=j) (Q:=λr s'=>r=w/\EP X aa σ Q r s') pl ∅ ∅ (by rw[cF,<- hl];exact h1) (by simpa using ew) ⟨rfl,eY⟩) hs
theorem Iy:Nb X RU:=by
 intro value jt aa s σ H x y v u Q I rx ry h hs;obtain⟨z,i,c,rfl,rfl,hz,he,q⟩:=h;obtain⟨t,rfl⟩:=rx;obtain⟨t',rfl⟩:=ry;obtain⟨j,h1,h2,h3,h4,h5⟩:=pF he;have hl:z.cps.toList.length=z.length:=by simp[Str.length]
 rw[hl]at h1 h4 h5;have hn:=iV
 exact tail_any (typeIs_str s z t) slot_str_getitem.lookup (getItem_str (c:=c) (by
  have e1:decide (i < -(2 ^ 63:Int))=false:=bx ∅;have e2:decide (i ≥ 2 ^ 63)=false:=bx ∅;rw[e1,e2,xR]) (by rw[h1];simpa using h2) ⟨.str ⟨#[c]⟩,H,I.tok _,⟨_,rfl⟩,q⟩) hs
theorem ui(aA:List Value)(n j:Nat)(u:Value):Obj.mapSeq (·.setIfInBounds j u) {cls:=.type "list",data:=.seq aA.toArray n}={cls:=.type "list",data:=.seq (aA.set j u).toArray n}:=by
 simp[Obj.mapSeq]
theorem Inv.lst{aa:List (Addr×Obj)}{σ:St}{H:Hp}{s:Shared}{p:Addr}{xs:List V}(I:Inv X aa σ H s)(h:H p=some (.lst xs)):∃(aA:List Value) (n:Nat),aO xs aA/\s.heap.get? p=some {cls:=.type "list",data:=.seq aA.toArray n}/\xs.length<=sizeLine:=by
 obtain⟨z,aA,n,r,e⟩:=I.bc p _ h;exact⟨aA,n,r,e,z⟩
theorem Inv.Iz{aa:List (Addr×Obj)}{σ:St}{H:Hp}{s:Shared}{p:Addr}{xs ys:List V}{aA its':List Value}{n n':Nat}{f:Obj->Obj}(I:Inv X aa σ H s)(h:H p=some (.lst xs)) (ho:s.heap.get? p=some {cls:=.type "list",data:=.seq aA.toArray n}) (hf:f {cls:=.type "list",data:=.seq aA.toArray n}={cls:=.type "list",data:=.seq its'.toArray n'}) (r:aO ys its') (hz:ys.length<=sizeLine) (t:Nat):Inv X aa σ (a_ H p (.lst ys)) {s with heap:=s.heap.update p f,toks:=t}:=by
 have e:(s.heap.update p f).get? p=some {cls:=.type "list",data:=.seq its'.toArray n'}:=by
  rw[tX f ho (by rw[hf]<;>rfl),hf]
 refine I.write (x:=p) (e:=p) (by rw[h];trivial) (.inl rfl) (λb u hb q=>(jX _ _ (dq hb)).trans q) ⟨_,e⟩ ?_;exact⟨hz,its',n',r,e⟩
def Nd:V->V->V->Hp->(Hp->Prop)->Prop:=λo i v H Q=>∃p xs k j,o=.ref p/\i=.int k/\H p=some (.lst xs)/\DQ xs.length k=some j/\Q (a_ H p (.lst (xs.set j v)))
theorem Ac:Dt X Nd:=by
 intro aa s σ H o i v ov iv u Q I ro ri rv h;obtain⟨p,xs,k,j,rfl,rfl,hp,hj,q⟩:=h;cases ro;obtain⟨t,rfl⟩:=ri;obtain⟨aA,n,r,ho,hz⟩:=I.lst hp;obtain⟨h1,h2,h3,h4⟩:=vK hj;have hl:=r.length;have hn:=iV
 have I':Inv X aa σ (a_ H p (.lst (xs.set j v))) {s with heap:=s.heap.update p (Obj.mapSeq (·.setIfInBounds j u))} :=
  I.Iz hp ho (ui aA n j u) (r.set rv j) (by rw[rf];exact hz) s.toks
 by_cases h0:0<=k
 ·have hk:k.toNat=j:=by
   rw[seqIndex_of h0 h4]at h1;exact cu h1
  exact PySem.W.ki_setAt ho h0 ∅ (by rw[cF,<- hl];exact h4) (by rw[hk];exact⟨_,I',q⟩)
 ·have hk:(k+(aA.toArray.size:Int)).toNat=j:=by
   rw[seqIndex_neg ∅ h3]at h1;rw[cF,<- hl];exact cu h1
  exact PySem.W.ki_setBack ho ∅ (by rw[cF,<- hl];exact h3) ∅ (by rw[hk];exact⟨_,I',q⟩)
theorem pG(lo hi:Option Int)(n:Nat):(sliceBounds lo hi none n).1=((HT.cE n 0 lo:Nat):Int)/\(sliceBounds lo hi none n).2.1=((HT.cE n n hi:Nat):Int)/\(sliceBounds lo hi none n).2.2=1:=by
 refine⟨?_,?_,rfl⟩
 ·cases lo with
  | none=>simp[sliceBounds,HT.cE]
  | some i =>
   simp only[sliceBounds,HT.cE,Option.getD_none,show(1:Int)>0 by decide,dE];by_cases h:i<0
   ·simp only[h,dE]<;>omega
   ·simp only[h,ni]<;>omega
 ·cases hi with
  | none=>simp[sliceBounds,HT.cE]
  | some i =>
   simp only[sliceBounds,HT.cE,Option.getD_none,show(1:Int)>0 by decide,dE];by_cases h:i<0
   ·simp only[h,dE]<;>omega
   ·simp only[h,ni]<;>omega
theorem nr(aA:List Value)(lo hi:Option Int):slicePick aA.toArray lo hi none=((aA.drop (HT.cE aA.length 0 lo)).take (HT.cE aA.length aA.length hi-HT.cE aA.length 0 lo)).toArray:=by
 obtain⟨h1,h2,h3⟩:=pG lo hi aA.toArray.size;unfold slicePick;rw[h1,h2,h3];simp only[sliceRange_one,pick_run,cF]<;>rfl
def RV(K:PySem.W.Frag):V->Option Int->Option Int->Hp->VK->Prop:=λx lo hi H Q=>∃a xs,x=.ref a/\fv K H a xs/\∀p,H p=none->Q (.ref p) (a_ H p (.lst (rN xs lo hi)))
theorem DS:M_ X (RV X.K):=by
 intro aa s σ H x v vl vu lo hi sl Q I rx hs pl pu h;obtain⟨a,xs,rfl,hx,q⟩:=h;cases rx;obtain⟨aA,r,ht,hz⟩:=I.list hx;have bf:=r.length;refine⟨"list",_,slot_list_getitem.lookup,ht.isList.typeIs,?_⟩;refine wpAny_getItem_list_slice ht.isList hs pl pu .none (by simp) ?_ (by rw[cF]<;>omega);rw[nr,<- bf];refine⟨.ref s.heap.objs.size,_,I.laid (t':=s.toks) (o:=.lst (rN xs lo hi)) (λb ob q=>cA _ q) (ar _) ?_,rfl,q _ (I.bc.fresh (ar _))⟩;exact⟨bJ (kR xs lo hi) hz,_,0,(r.drop (HT.cE xs.length 0 lo)).take (HT.cE xs.length xs.length hi-HT.cE xs.length 0 lo),fm _ rfl⟩
theorem pH:dt X (.builtin "len") (λxs H Q=>∃p ys,xs=[.ref p]/\(fv X.K H p ys\/fS X.K H p ys)/\Q (.int ys.length) H):=by
 intro aa s σ H xs us Q I r h;obtain⟨p,ys,rfl,hq,q⟩:=h;obtain⟨u,rfl,rx⟩:=vals1 r;cases rx;have hn:=iV;rcases hq with hq | hq
 ·obtain⟨aA,r',pl,hz⟩:=I.list hq;have bf:=r'.length;exact Calls.call_len_list pl.isList (by simp only[cF]<;>omega) ⟨.int ys.length,H,I.tok _,⟨s.toks+1,by rw[cF,bf]⟩,q⟩
 ·obtain⟨aA,r',pl,hz⟩:=I.tuple hq;have bf:=r'.length;exact len_tuple pl (by simp only[cF]<;>omega) ⟨.int ys.length,H,I.tok _,⟨s.toks+1,by rw[cF,bf]⟩,q⟩
theorem pI:dt X (.builtin "len") (λxs H Q=>∃z,xs=[.str z]/\z.length<=sizeLine/\Q (.int z.length) H):=by
 intro aa s σ H xs us Q I r h;obtain⟨z,rfl,hz,q⟩:=h;obtain⟨u,rfl,t,rfl⟩:=vals1 r;have hn:=iV;exact len_str ∅ ⟨.int z.length,H,I.tok _,⟨_,rfl⟩,q⟩
theorem pJ:dt X (.type "list") (λxs H Q=>∃p ys,xs=[.ref p]/\(fv X.K H p ys\/fS X.K H p ys)/\∀l,H l=none->Q (.ref l) (a_ H l (.lst ys))):=by
  intro aa s σ H xs us Q I r h;obtain⟨p,ys,rfl,hq,q⟩:=h;obtain⟨u,rfl,rx⟩:=vals1 r;cases rx
  have eY : ∀ (aA : List Value), aO ys aA -> ys.length <= sizeLine -> ∀ (h' : Heap) (c' : Nat), (∀ b o', s.heap.get? b = some o' -> h'.get? b = some o') ->
      h'.get? s.heap.objs.size=some {cls:=.type "list",dict:=none,data:=.seq aA.toArray c',slots:=#[]}->EP X aa σ Q (.ref s.heap.objs.size) {s with heap:=h'}:=λaA r' hz h' c' kp e =>
    ⟨.ref s.heap.objs.size,_,I.laid (t':=s.toks) kp (ar _) (show ba X.prog X.w _ h' _ (.lst ys) from ⟨hz,aA,c',r',e⟩),rfl,q _ (I.bc.fresh (ar _))⟩
  rcases hq with hq | hq
  · obtain⟨aA,r',pl,hz⟩:=I.list hq;have bf:=r'.length;obtain⟨o,ho,hc,n,hd⟩:=pl.isList;exact call_list_seq p (.inl rfl) ho hc hd (λh' c' kp e=>eY aA r' hz h' c' kp e) (by simp only[cF]<;>omega)
  · obtain⟨aA,r',pl,hz⟩:=I.tuple hq;have bf:=r'.length;obtain⟨o,ho,hc,n,hd⟩:=pl;exact call_list_seq p (.inr rfl) ho hc hd (λh' c' kp e=>eY aA r' hz h' c' kp e) (by simp only[cF]<;>omega)
theorem iH:dt X (.type "tuple") (λxs H Q=>∃p ys,xs=[.ref p]/\((fv X.K H p ys/\∀l,H l=none->Q (.ref l) (a_ H l (.tup ys)))\/(fS X.K H p ys/\Q (.ref p) H))):=by
 intro aa s σ H xs us Q I r h;obtain⟨p,ys,rfl,h⟩:=h;obtain⟨u,rfl,rx⟩:=vals1 r;cases rx;rcases h with⟨hq,q⟩|⟨hq,q⟩
 ·obtain⟨aA,r',pl,hz⟩:=I.list hq;have bf:=r'.length;refine call_tuple_list pl.isList (λh' kp=>?_) (by simp only[cF]<;>omega);have I1:Inv X aa σ H {s with heap:=h'}:=I.kept (t':=s.toks) kp
  have I2:Inv X aa σ (a_ H h'.objs.size (.tup ys)) {s with heap:=h'.push {cls:=.type "tuple",data:=.seq aA.toArray}} :=
   I1.laid (t':=s.toks) (λb o e=>cA _ e) (ar _) (show ba X.prog X.w _ _ _ (.tup ys) from ⟨hz,aA,r',IsTup.new _ _⟩)
  exact⟨.ref h'.objs.size,_,I2,rfl,q _ (I1.bc.fresh (ar _))⟩
 ·obtain⟨aA,r',pl,hz⟩:=I.tuple hq;exact call_tuple_same pl ⟨.ref p,H,I,rfl,q⟩
def RX(K:PySem.W.Frag)(T:String)(x:V)(H:Hp):Prop:=match x with
  | .str _=>T = "str"
  | .int _=>T = "int"
  | .ref p => (T = "list" /\ ∃ xs, fv K H p xs) \/ (T = "tuple" /\ ∃ o, K.lookup p = some o /\ o.cls = .type "tuple" /\ o.dict = none) \/
      (T = "dict" /\ ((∃ao,H p=some (.dK ao))\/∃ao,H p=some (.dT ao)))\/(T = "set" /\ ∃S n,H p=some (.set S n))
  | _=>False
theorem Ad{aa:List (Addr×Obj)}{σ:St}{H:Hp}{s:Shared}{T:String}{x:V}{v:Value}(I:Inv X aa σ H s)(r:RelV x v)(ty:RX X.K T x H):s.TypeIs v T/\∀a,v=.ref a->∃ob,s.heap.get? a=some ob/\ob.dict=none:=by
 cases x with
 | str z =>
  obtain⟨t,rfl⟩:=r;cases (show T = "str" from ty);exact⟨typeIs_str s z t,λ_ e=>nomatch e⟩
 | int i =>
  obtain⟨t,rfl⟩:=r;cases (show T = "int" from ty);exact⟨typeIs_int s i t,λ_ e=>nomatch e⟩
 | ref p =>
  cases r;rcases ty with⟨rfl,xs,hq⟩|⟨rfl,o,hk,hc,hd⟩|⟨rfl,hk⟩|⟨rfl,S,n,hk⟩
  ·obtain⟨aA,_,pl,_⟩:=I.list hq;refine⟨pl.isList.typeIs,λa e=>?_⟩;cases e;obtain⟨o,n,e,c,hd,_⟩:=pl;exact⟨o,e,hd⟩
  ·refine⟨⟨o,I.iU p o hk,hc⟩,λa e=>?_⟩;cases e;exact⟨o,I.iU _ o hk,hd⟩
  ·have z:∃o,s.heap.get? p=some o/\o.ExactDict:=by
    rcases hk with⟨ao,hk⟩|⟨ao,hk⟩
    ·obtain⟨_,_,_,_,o,_,_,e,ex,_⟩:=I.bc p _ hk;exact⟨o,e,ex⟩
    ·obtain⟨_,_,_,_,o,_,_,e,ex,_⟩:=I.bc p _ hk;exact⟨o,e,ex⟩
   obtain⟨o,e,ex⟩:=z;refine⟨⟨o,e,ex.1⟩,λa e2=>?_⟩;cases e2;exact⟨o,e,ex.2.1⟩
  ·obtain⟨o,_,_,_,e,ex,_⟩:=I.bc p _ hk;refine⟨⟨o,e,ex.1⟩,λa e2=>?_⟩;cases e2;exact⟨o,e,ex.2.1⟩
 | _=>exact False.elim ty
def Nf(K:PySem.W.Frag)(T:String)(r:V->List V->Hp->VK->Prop)(to:TE):TE:=λσ H Q=>to σ H λx H1=>RX K T x H1/\r x [] H1 Q
def UT(K:PySem.W.Frag)(T:String)(r:V->List V->Hp->VK->Prop)(to:TE)(t:TA):TE:=λσ H Q=>to σ H λx H1=>RX K T x H1/\t σ H1 λxs H2=>r x xs H2 Q
variable {o e:Expr} {es:List Expr} {to:TE} {t:TA} {name:Str} {yi dG:Pos} {T id:String} {r:V->List V->Hp->VK->Prop}
theorem Ae(pa:PlainAttrs T)(slot:Slot T name id) (RY:typeOf (.builtin id)=pure (.type "method_descriptor")) (hm:Lf X id r) (ho:PE X o to) (Af:attributeBase o name X.env (eval o X.env)=eval o X.env:=by rfl) (Ag:(yi.endLine==dG.line)=true:=by rfl):PE X (.Call (.Attribute o name yi) [] [] dG) (Nf X.K T r to):=by
 intro aa s σ H Q I h;refine wpAny_Call_method0_late Af Ag (bV (ho aa s σ H _ I h) ?_);rintro v s1 ⟨x,H1,I1,r1,ty,q1⟩;obtain⟨h1,h2⟩:=Ad I1 r1 ty;exact⟨T,id,pa,slot,RY,h1,h2,Calls.callWith_builtin rfl (PySem.evalArgs_none (hm aa s1 σ H1 x [] v [] Q I1 r1 .nil q1))⟩
theorem Ah (pa : PlainAttrs T) (slot : Slot T name id) (RY : typeOf (.builtin id) = pure (.type "method_descriptor")) (hm : Lf X id r) (ho : PE X o to) (ha : PA X (e :: es) t)
    (Af:attributeBase o name X.env (eval o X.env)=eval o X.env:=by rfl)
    (yn:((backTo dG (starEach (e::es) X.env)).all (λx=>!x.1)&&(backToKw dG (keywordEach [] X.env)).all (λx=>x.1.isSome)
      && decide ((e::es).length+([]:List Keyword).length+(if ([]:List Keyword).isEmpty then 0 else 1)<30))=true:=by rfl)
    (Ag:(yi.endLine==dG.line)=true:=by rfl) (hs:starEach (e::es) X.env=(false,eval e X.env)::starEach es X.env:=by rfl) (IA:(backTo dG (starEach es X.env)).any (·.1)=false:=by rfl) :
    PE X (.Call (.Attribute o name yi) (e::es) [] dG) (UT X.K T r to t):=by
  intro aa s σ H Q I h;refine wpAny_Call_method_late Af yn Ag rfl (bV (ho aa s σ H _ I h) ?_);rintro v s1 ⟨x,H1,I1,r1,ty,q1⟩;obtain⟨h1,h2⟩:=Ad I1 r1 ty;refine⟨T,id,pa,slot,RY,h1,h2,?_⟩;have hA:=ha dG aa s1 σ H1 _ I1 q1;rw[hs]at hA⊢;refine Calls.callWith_builtin (by show(false||(backTo dG (starEach es X.env)).any (·.1))=false;rw[IA]<;>rfl) (Calls.evalArgs_plain ?_);exact bV hA λus s2 ⟨vs,H2,I2,r2,q2⟩=>hm aa s2 σ H2 x vs v us Q I2 r1 r2 q2
end
def Wg(X:Cx)(id:String)(r:V->List V->Hp->VK->Prop):Prop :=
 ∀(aa:List (Addr×Obj))(s:Shared)(σ:St)(H:Hp)(x:V)(xs:List V)(v:Value)(us:List Value)(Q:VK),Inv X aa σ H s->RelV x v->aO xs us->r x xs H Q ->
  wpAny (model X.prog X.w) X.A (call (.builtin id) (v::us)) (EP X aa σ Q) X.xe s
theorem aO.one{x:V}{us:List Value}(h:aO [x] us):∃u,us=[u]/\RelV x u:=by
 cases h with
 | cons r t=>cases t;exact⟨_,rfl,r⟩
theorem aO.two{x y:V}{us:List Value}(h:aO [x,y] us):∃u v,us=[u,v]/\RelV x u/\RelV y v:=by
 cases h with
 | cons r t=>obtain⟨v,rfl,q⟩:=aO.one t;exact⟨_,v,rfl,r,q⟩
theorem aO.dropLast{xs:List V}{us:List Value}(h:aO xs us):aO xs.dropLast us.dropLast:=by
 induction h with
 | nil=>exact .nil
 | cons r t ih =>
  cases t with
  | nil=>exact .nil
  | cons q t'=>exact .cons r ih
theorem aO.rep{xs:List V}{us:List Value}(h:aO xs us):∀k:Nat,aO (List.replicate k xs).flatten (List.replicate k us).flatten
 | 0=>.nil
 | k+1=>by
  rw[xC,xC,zp,zp];exact aO.append h (aO.rep h k)
theorem foldl_rep(aA:List Value):∀(k:Nat)(aI:List Value),List.foldl (λx1 x2=>x1++x2) aI.toArray (List.replicate k aA.toArray)=(aI++(List.replicate k aA).flatten).toArray
 | 0,aI=>by simp
 | k+1,aI=>by
  have e:aI.toArray++aA.toArray=(aI++aA).toArray:=by simp
  have e2:(aI++aA)++(List.replicate k aA).flatten=aI++(List.replicate (k+1) aA).flatten:=by
   rw[xC,zp,xF]
  rw[<- e2,<- foldl_rep aA k (aI++aA),<- e,xC,Dc]
section
variable {X:Cx} {aa:List (Addr×Obj)} {σ:St} {H:Hp} {s:Shared} {l b:Addr} {xs ys zs:List V}
theorem Inv.Ng{aA its':List Value}{n:Nat}{f:Array Value->Array Value}{t':Nat}(I:Inv X aa σ H s)(hH:H l=some (.lst xs)) (e:s.heap.get? l=some {cls:=.type "list",data:=.seq aA.toArray n}) (hf:f aA.toArray=its'.toArray) (hv:aO ys its') (hz:ys.length<=sizeLine):Inv X aa σ (a_ H l (.lst ys)) {s with heap:=s.heap.update l (Obj.mapSeq f),toks:=t'}:=by
 have q:=PySem.IsL.update e f;rw[hf]at q;refine I.write (x:=l) (e:=l) (by rw[hH];exact trivial) (.inl rfl) (λb' u hb hu=>(jX s.heap (Obj.mapSeq f) (dq hb)).trans hu) ⟨_,q⟩ ?_;exact⟨hz,its',_,hv,q⟩
theorem Inv.Nh{aA:List Value}{t':Nat}(I:Inv X aa σ H s)(hv:aO ys aA)(hz:ys.length<=sizeLine):Inv X aa σ (a_ H s.heap.objs.size (.lst ys)) {s with heap:=s.heap.push {cls:=.type "list",data:=.seq aA.toArray},toks:=t'} :=
 I.laid (λ_ _ q=>cA _ q) (ar _) ⟨hz,aA,0,hv,fm _ rfl⟩
theorem Inv.fresh(I:Inv X aa σ H s):H s.heap.objs.size=none:=I.bc.fresh (ar _)
theorem Inv.Ai(I:Inv X aa σ H s)(hH:H l=some (.lst xs)):xs.length<=sizeLine/\∃(aA:List Value) (n:Nat),aO xs aA/\xs.length=aA.length/\s.heap.get? l=some {cls:=.type "list",data:=.seq aA.toArray n}:=by
 obtain⟨z,aA,n,r,e⟩:=I.bc l _ hH;exact⟨z,aA,n,r,r.length,e⟩
theorem Aj{n:Nat}(h:n<=sizeLine):Builtin.List.listTooLong n=false:=by
 unfold Builtin.List.listTooLong;exact bx ∅
end
section
variable {X:Cx}
def DT:V->List V->Hp->VK->Prop:=λx vs H Q=>∃l xs y,x=.ref l/\vs=[y]/\H l=some (.lst xs)/\xs.length<sizeLine/\Q .aK (a_ H l (.lst (xs++[y])))
theorem og:Wg X "list.append" DT:=by
 intro aa s σ H x vs v us Q I rx rv h;obtain⟨l,xs,y,rfl,rfl,hH,hz,q⟩:=h;cases rx;obtain⟨u,rfl,ru⟩:=rv.one;obtain⟨z,aA,n,r,hl,e⟩:=I.Ai hH;refine t6 F.slot_list_append ⟨_,e,rfl⟩ F.entry_list_append (F.args_list_append_2 _ _) (PySem.list_append l aA.toArray n u (by rw[cF];omega)) ⟨e,?_⟩;refine⟨.aK,_,I.Ng (its':=aA++[u]) hH e (by simp) (r.append (.cons ru .nil)) ?_,rfl,q⟩;rw[bY,List.length_singleton];omega
def RZ:R2:=λx y H Q=>∃l b xs zs,x=.ref l/\y=.ref b/\H l=some (.lst xs)/\H b=some (.lst zs)/\xs.length+zs.length<=sizeLine/\∀p,H p=none->Q (.ref p) (a_ H p (.lst (xs++zs)))
theorem IB:ik X (binaryOp .Add) RZ:=by
 intro aa s σ H x y v u Q I rx ry h;obtain⟨l,b,xs,zs,rfl,rfl,hH,hB,hz,q⟩:=h;cases rx;cases ry;obtain⟨z,aA,n,r,hl,e⟩:=I.Ai hH;obtain⟨z2,Ab,n2,r2,R0,e2⟩:=I.Ai hB;refine PySem.P.add_list e e2 ?_ (by rw[cF,cF];omega);have ea:aA.toArray++Ab.toArray=(aA++Ab).toArray:=by simp
 rw[ea];exact⟨.ref _,_,I.Nh (t':=s.toks) (r.append r2) (by rw[bY];omega),rfl,q _ I.fresh⟩
def R1:R2:=λx y H Q=>∃l k xs,x=.ref l/\y=.int k/\H l=some (.lst xs)/\-(2 ^ 63)<=k/\k<2 ^ 63/\xs.length*k.toNat<=sizeLine /\
 ∀p,H p=none->Q (.ref p) (a_ H p (.lst (List.replicate k.toNat xs).flatten))
theorem pK{α:Type}(xs:List α)(k:Nat):(List.replicate k xs).flatten.length=k*xs.length:=by
 induction k with
 | zero=>simp
 | succ k ih=>rw[xC,zp,bY,ih,Nat.succ_mul,Nat.add_comm]
theorem IC:ik X (binaryOp .Mult) R1:=by
 intro aa s σ H x y v u Q I rx ry h;obtain⟨l,k,xs,rfl,rfl,hH,h1,h2,hz,q⟩:=h;cases rx;obtain⟨t,rfl⟩:=ry;obtain⟨z,aA,n,r,hl,e⟩:=I.Ai hH;have bf:aA.toArray.size*k.toNat<=sizeLine:=by rw[cF,<- hl];exact hz
 have Ak:¬aA.toArray.size*k.toNat>(2 ^ 63-1) / 8:=by
  have:(sizeLine:Nat)<=(2 ^ 63-1) / 8:=by decide
  omega
 have R3:¬(!Builtin.List.listFitsIndex k)=true:=by
  rw[fitsIndex_both h1 h2];exact au
 have Ni:¬Builtin.List.listTooLong (aA.toArray.size*k.toNat)=true:=by
  rw[Aj bf];exact au
 have lp:List.foldl (λx1 x2=>x1++x2) #[] (List.replicate (if aA.toArray.isEmpty=true then 0 else k.toNat) aA.toArray)=(List.replicate k.toNat aA).flatten.toArray:=by
  have f0:∀m:Nat,List.foldl (λx1 x2=>x1++x2) #[] (List.replicate m aA.toArray)=(List.replicate m aA).flatten.toArray:=λm=>by
   have:=foldl_rep aA m [];rw[Dd]at this;exact this
  rw[f0]
  cases aA with
  | nil=>simp
  | cons a r'=>rw[aX (by simp)]
 refine wpAny_binaryOp_repeat_ref (T := "list") (U := "int") (by decide) ⟨_,e,rfl⟩ (λs'=>typeIs_int s' k t) noFill_list_mul F.fills_int_mul De repeat_list F.slot_int_index.lookup
  (t6 De (typeIs_int s k t) F.entry_int_rmul (F.args_int_rmul_2 _ _) (int___rmul___int_list k t l aA.toArray n)
   ⟨e,rfl,⟨_,e,rfl⟩,t6 F.slot_list_mul ⟨_,e,rfl⟩ F.entry_list_mul (F.args_list_mul_2 _ _) (AutoListH.list___mul___list_int_3 l aA.toArray n k t R3 Ak Ni) ⟨e,?_⟩⟩)
 rw[lp];exact⟨.ref _,_,I.Nh (t':=s.toks) (r.rep k.toNat) (by rw[pK,Nat.mul_comm];exact hz),rfl,q _ I.fresh⟩
end
end L2
namespace UU
open PySem PySem.W PySem.Calls PyProof.Rows
theorem lq{P:Params}{h:Heap}:∀(ns:List Int)(vs:List Value),WellAll P h vs (ns.map WData.int)->IntsAre vs ns:=by
 intro ns
 induction ns with
 | nil =>
  intro vs w;rw[xU]at w;cases w;exact .nil
 | cons n ns ih =>
  intro vs w;rw[iC]at w
  cases w with
  | cons a b =>
   cases a;exact .cons _ _ (ih _ b)
theorem yo{l:OpenLaw}{n:Nat}(hn:l.most=some n){P:Params}{h:Heap}{args:List WData}{vals:List Value}(DU:l.row.toRowW.claim.pre args=true)(ID:WellAll P h vals args):∃a vs ns,vals=[Value.ref a]/\args=[WData.list (ns.map WData.int)]/\h.get? a=some {cls:=.type "list",data:=.seq vs.toArray}/\IntsAre vs ns/\ns.length<=n:=by
 have Wh:WShape.hasAll [] args [.list .int]=true:=(pre_splitW DU).1;have hc:l.pre.holds [] {args:=args}=true:=(pre_splitW DU).2;obtain⟨d,r,rfl,h1,h2⟩:=hasAllW_cons Wh;obtain rfl:=hasAllW_nil h2;obtain⟨xs,rfl,h3⟩:=hasW_list h1;obtain⟨ns,rfl⟩:=items_int h3
 have bf:ns.length<=n:=by
  unfold OpenLaw.pre at hc
  have h4:(WTm.not (.lt (.lit (.int (n:Int))) (.len (.arg 0)))).holds [] {args:=[.list (ns.map .int)]}=true:=by
   have h4:=(holds_andW hc).1;rw[hn]at h4;exact h4
  have h5:=condW_of h4 (w_not (w_lt w_lit (w_len_list (w_arg rfl))));rw[cM]at h5;refine Nat.le_of_not_lt λq=>?_;have q':(n:Int)<((ns.length:Nat):Int):=∅
  first
   | (rw[bB q']at h5;exact absurd h5 (by decide))
   | (simp at h5;omega)
 cases ID with
 | cons w1 w2 =>
  cases w2
  cases w1 with
  | list ho uf=>exact⟨_,_,ns,rfl,rfl,ho,lq ns _ uf,bf⟩
theorem yp(l:OpenLaw)(args:List WData):l.row.toRowW.claim.post args (.bool true) args=true :=
 postW_of (r:=l.row.toRowW) (X:=(true==true))
  (show WShape.has [] (.bool true) .bool=true by first | rfl | decide | simp[WShape.has,WShape.arms,WShape.armsAll])
  (show(WTm.eq .res (.lit (.bool true))).value [] {args:=args,res:=some (.bool true),after:=args}=some (.bool (true==true)) from w_eq_bool (w_res rfl) w_lit) rfl
theorem rO {l : OpenLaw} {n : Nat} {q : Program} {loose : List Str} {XP : (Str -> Option Value) -> Heap -> Prop} {YP : World -> Heap -> Prop} {d : DefRec}
    (hn:l.most=some n) (Nj:d.params.defaults=[])
    (call:∀(w:World)(dr bL:Shared)(mg mb:Str->Option Value)(fa:Addr)(o:Obj)(pm cd doc:Value)(a:Addr)(vs:List Value)(ns:List Int),
      Ground q loose [] XP w dr mg mb bL.heap->YP w bL.heap ->
      bL.heap.get? fa=some o->o.data=.func (docDef d.name d.params d.body d.scope pm cd doc)->bL.heap.CodeRec cd d.name->mg d.name=some (.ref fa) ->
      bL.heap.get? a=some {cls:=.type "list",data:=.seq vs.toArray}->IntsAre vs ns->ns.length<=n->bL.gens=#[] ->
      codeAny (model l.prog w) callerA (.call (.ref fa) ⟨[.ref a],[]⟩) (λr s'=>r=.ok (.ret (.bool true))/\OldK bL.heap s'.heap/\s'.os=bL.os/\AllBare s'.gens) bL) :
    WalkO q loose XP YP l.row.toRowW d [] (λf vs=>PySem.call f vs):=by
  intro w dr bL mg mb G Y fa o pm cd doc dV kV ho hd CK hD Nk hg args vals as DU Wi DV ID Lg;obtain rfl:dV=.none:=Dflts.none hD Nj;obtain rfl:kV=.none:=Dflts.noKw hD;obtain⟨a,vs,ns,rfl,rfl,IE,hints,bf⟩:=yo hn DU ID;refine enter_call (xT (call w dr bL mg mb fa o pm cd doc a vs ns G Y ho (fd_plain hd) CK Nk IE hints bf hg) λr s' hq=>?_);obtain⟨rfl,h2,h3,h4⟩:=hq;exact⟨.inl ⟨.bool true,.bool true,[],rfl,λ_=>rfl,.bool true,yp l _,λ_=>⟨List.Pairwise.nil,λ_ hm=>(nomatch hm)⟩⟩,h2,h3,h4⟩
end UU
namespace L2
open PySem PySem.Spec PyProof.Rows
theorem oh:∀{vs:List Value}{ns:List Int},IntsAre vs ns->aO (ns.map V.int) vs
 | _,_,.nil=>.nil
 | _,_,.cons n t h=>.cons ⟨t,rfl⟩ (oh h)
noncomputable def DW(H:Hp):Prop:=∀b,H b=none\/∃o xs,H b=some (.gA o (.lst xs))
theorem Al{P:Program}{w:World}{K:PySem.W.Frag}{mg mb:Str->Option Value}{CX:vF}{k:Nat}{fa a:Addr}{fd:FuncData}{x:Str}{sp:Sp}{bL:Shared}{vs:List Value}{ns:List Int}(KX:K.In bL.heap)(md:bL.heap.Ns mainGlobals mg)(hb:bL.heap.Ns builtinsNs mb) (Wj:∀x:Str,x≠ "__name__" -> mb x=bootBuiltins x) (R4:bL.heap.NoLimit) (hg:bL.gens=#[]) (ha:bL.heap.get? a=some {cls:=.type "list",data:=.seq vs.toArray}) (hi:IntsAre vs ns) (hl:ns.length<=sizeLine) (hr:fF k callerA) (F:∀base:Heap,K.In base->base.Ns mainGlobals mg->eZ P w K mg base CX k fa fd [x] sp) (Nm:∀(s:Shared)(u:Value),BindsTo s fd ⟨[u],[]⟩ [(x,u)]) (rG:∀H:Hp,DW H->fv K H a (ns.map V.int)->sp [.ref a] H (λv _=>v=.bl true) λ_ _ _=>False) (R5:∀H e s',CX [] H bL (λ_ _ _=>False) e s'->False):codeAny (model P w) callerA (.call (.ref fa) ⟨[.ref a],[]⟩) (λr s'=>r=.ok (.ret (.bool true))/\OldK bL.heap s'.heap/\s'.os=bL.os/\AllBare s'.gens) bL:=by
  have rv:=oh hi;have R6:=hi.length
  have core : ∀ H : Hp, DW H -> fv K H a (ns.map V.int) -> iF P w H bL.heap -> (∀ b, H b ≠ none -> b = a) -> (H a ≠ none -> K.lookup a = none) ->
      codeAny (model P w) callerA (.call (.ref fa) ⟨[.ref a],[]⟩) (λr s'=>r=.ok (.ret (.bool true))/\OldK bL.heap s'.heap/\s'.os=bL.os/\AllBare s'.gens) bL:=by
    intro H hO hS bc hA hK;have ju:∀{b:Addr}{o:Obj},bL.heap.get? b=some o->H b=none->(pd bL.heap H).get? b=some o:=λe n=>zE e n
    have MT:∀{b:Addr}{o:Obj}{es:Array DictEntry}{ep:Nat},bL.heap.get? b=some o->o.data=.dict es ep->H b=none:=λ{b o es ep} e d=>by
      cases q:H b with
      | none=>rfl
      | some u =>
        have e':b=a:=hA b (by rw[q];simp);subst e';rw[ha]at e;cases e;have d':Data.seq vs.toArray _=Data.dict es ep:=d;cases d'
    have P9:∀{b:Addr}{m:Str->Option Value},bL.heap.Ns b m->(pd bL.heap H).Ns b m:=λ{b m} ⟨o,es,ep,e,d,r⟩=>⟨o,es,ep,ju e (MT e d),d,r⟩
    have UW:K.In (pd bL.heap H):=λb o e=>ju (KX b o e) (by
      cases q:H b with
      | none=>rfl
      | some u =>
        have e':b=a:=hA b (by rw[q];simp);subst e';rw[hK (by rw[q];simp)]at e;cases e)
    have hM:Mod K mg (pd bL.heap H):=⟨UW,P9 md,⟨mb,P9 hb,Wj⟩,let ⟨mc,h1,h2⟩:=R4;⟨mc,P9 h1,h2⟩⟩;have e0:rC P w K mg (pd bL.heap H) callerA [] bL H:=⟨rfl,hM,λb o e=>Dk e,xV (x4 _ _),trivial,λb hb=>absurd (show b∈([]:List Addr) from hb) (by simp),bc,.of_eq hg⟩;refine xT ((F _ UW (P9 md)).run callerA [] bL H ⟨[.ref a],[]⟩ [.ref a] [.ref a] _ _ hr e0 (Nm bL (.ref a)) (.cons rfl .nil) (rG H hO hS)) λr s' h=>?_
    cases r with
    | error e=>exact(R5 H e s' h).elim
    | ok fl =>
      cases fl with
      | next=>exact False.elim h
      | brk=>exact False.elim h
      | cont=>exact False.elim h
      | ret u =>
        obtain⟨v,H',os,bare,un,R7,r',q⟩:=h;have q':v=.bl true:=q;subst q';obtain rfl:u=Value.bool true:=r';refine⟨rfl,OldK.of_keep λb o e=>?_,os,bare⟩
        cases q:H b with
        | none=>exact un.keep b o e q (by intro z;exact absurd (show b∈([]:List Addr) from z) (by simp)) (by simp)
        | some u =>
          rcases hO b with z | ⟨ob,xs,z⟩
          · rw[q]at z;cases z
          · have z2:=un.nk b ob _ z;obtain⟨e1,_⟩:=bc b _ z;obtain⟨e2,_⟩:=R7 b _ z2;rw[e]at e1;cases e1;exact e2
  cases hk:K.lookup a with
  | some o =>
    have e:=KX a o hk;rw[ha]at e;cases e;refine core (λ_=>none) (λ_=>.inl rfl) (.inr ⟨_,vs.toArray,_,hk,rfl,rfl,rfl,by rw[cF,R6];exact hl,by simpa using rv⟩) (λb u z=>by have z':(none:Option HO)=some u:=z;cases z') (λb z=>absurd rfl z) λz=>absurd rfl z
  | none =>
    refine core (λb=>if b=a then some (.gA {cls:=.type "list",data:=.seq vs.toArray} (.lst (ns.map V.int))) else none) (λb=>?_) (.inl (.inr ⟨{cls:=.type "list",data:=.seq vs.toArray},aU rfl⟩)) (λb u z=>?_) (λb z=>?_) λ_=>hk
    · by_cases hb:b=a
      · exact .inr ⟨_,_,aU hb⟩
      · exact .inl (aX hb)
    · by_cases hb:b=a
      · have z':=(aU hb).symm.trans z;cases z';subst hb;exact⟨ha,by rw[cM];exact hl,vs,_,rv,ha⟩
      · have z':=(aX hb).symm.trans z;cases z'
    · by_cases hb:b=a
      · exact hb
      · exact absurd (aX hb) z
theorem DX {l : PySem.W.OpenLaw} {n k : Nat} {q : Program} {loose : List Str} {XP : (Str -> Option Value) -> Heap -> Prop} {YP : World -> Heap -> Prop} {d : DefRec} {K : Params -> PySem.W.Frag} {CX : World -> vF} {sp : World -> Sp} {x : Str}
    (hn:l.most=some n) (Wk:n<=sizeLine) (Nj:d.params.defaults=[]) (hr:fF k callerA)
    (hY:∀(w:World)(h:Heap),YP w h->(K w.params).In h)
    (F:∀(w:World)(mg:Str->Option Value)(fa:Addr)(h:Heap),(K w.params).In h->h.Ns mainGlobals mg->mg d.name=some (.ref fa) ->
      ∃fd:FuncData,(∀(s:Shared)(u:Value),BindsTo s fd ⟨[u],[]⟩ [(x,u)]) /\
        ∀base:Heap,(K w.params).In base->base.Ns mainGlobals mg->eZ l.prog w (K w.params) mg base (CX w) k fa fd [x] (sp w))
    (rG:∀(w:World)(H:Hp)(a:Addr)(ns:List Int),ns.length<=n->DW H->fv (K w.params) H a (ns.map V.int)->sp w [.ref a] H (λv _=>v=.bl true) λ_ _ _=>False)
    (R5:∀(w:World)(H:Hp)(s:Shared)(e:Value)(s':Shared),CX w [] H s (λ_ _ _=>False) e s'->False) :
    PySem.W.WalkO q loose XP YP l.row.toRowW d [] (λf vs=>PySem.call f vs):=by
  refine UU.rO hn Nj λw dr bL mg mb fa o pm cd doc a vs ns G Y ho hd CK Nk IE hints bf hg=>?_;have KX:=hY w _ Y;obtain⟨fd,hb,hF⟩:=F w mg fa _ KX G.T.g Nk;exact Al KX G.T.g G.T.b G.T.builtins G.T.nolimit hg IE hints (bJ bf Wk) hr hF hb (λH hO hS=>rG w H a ns bf hO hS) λH e s'=>R5 w H bL e s'
abbrev y9:vF:=λ_ _ _ _ _ _=>False
abbrev E0:XK:=λ_ _ _=>False
theorem Nn{X:Cx}:iX y9 X E0:=λ_ _ _ _ _ _ _ h=>h.elim
structure Np (K:PySem.W.Frag) (x qual:Str) (st:Stmt) (f:Addr) (fd:FuncData):Prop where
 ex:∃(oc:Value) (od:Option Addr) (kV doc pm:Value) (an:Option Addr) (lY ct:Value) (pA:Array (Option Value)),
  fd=PySem.W.fnOf x qual (fu st) (bZ st) (aG st) .none kV doc pm an lY ct/\K.lookup f=some ⟨oc,od,.func fd,pA⟩/\PySem.W.codeIn K lY qual=true
 kp:PySem.W.keepIn K (.ref f)=true
section
variable {P:Program} {w:World} {K:PySem.W.Frag} {mg:Str->Option Value} {base:Heap}
theorem Np.ok {x qual : Str} {st : Stmt} {f : Addr} {fd : FuncData} {N ps : List Str} {k : Nat} {sp : Sp} (F : Np K x qual st f fd) (S : il N ps (aG st)) (len : ∀ vs H Q E, sp vs H Q E -> vs.length = ps.length)
    (zZ:∀(lY:Value)(A:Around)(outer:List Env)(s:Shared)(H:Hp)(vs:List V)(Q:VK)(E:XK),fF k (A.deeper (envOfC qual (aG st) s.heap.objs.size f lY))->sp vs H Q E ->
      ∃t,nP (rE y9 P w K mg base N qual (aG st) f lY A outer s H E).Dn (bZ st) t/\t {nx:=λ_ H'=>Q .aK H',rt:=Q} (start N vs) H):eZ P w K mg base y9 (k+1) f fd ps sp:=by
  obtain⟨oc,od,kV,doc,pm,an,lY,ct,pA,rfl,lk,CK⟩:=F.ex;refine Ga lk CK S len λA outer s H vs Q E hr rG=>?_;obtain⟨t,h,q⟩:=zZ lY A outer s H vs Q E hr rG;exact⟨t,h.Dn,q⟩
theorem uj{x qual:Str}{st:Stmt}{f:Addr}{oc:Value}{od an:Option Addr}{pA:Array (Option Value)}{kV doc pm lY ct:Value}(l:K.lookup f=some ⟨oc,od,.func (PySem.W.fnOf x qual (fu st) (bZ st) (aG st) .none kV doc pm an lY ct),pA⟩)(c:PySem.W.codeIn K lY qual=true)(k:PySem.W.keepIn K (.ref f)=true):Np K x qual st f (PySem.W.fnOf x qual (fu st) (bZ st) (aG st) .none kV doc pm an lY ct):=⟨⟨oc,od,kV,doc,pm,an,lY,ct,pA,rfl,l,c⟩,k⟩
end
end L2
end
section
namespace L2
open PySem PySem.Spec PyProof.Rows
section
variable {prog:Program} {w:World} {A:Around} {R:Result->Shared->Prop} {s:Shared}
theorem pL {elt j7 aH : Expr} {ifs : List Expr} {scope : Scope} {pos : Pos} {it aI : Value} {env : Env} (I : Nat -> Shared -> Prop)
    (zR:∀n s,I n s->wpAny (model prog w) A (pyNext it) (λr bL=>match r with
      | none=>R (.ok .next) bL
      | some v => wpAny (model prog w) A (letOwnedTupleGo j7 it v) (fun _ Ge => wpAny (model prog w) A (assign j7 env v) (fun _ DA =>
          wpAny (model prog w) A (forIn ifs true λc r=>if r=true then do let ok <- isTrue c env (eval c env);pure (ForInStep.yield ok) else pure (ForInStep.yield r)) (λok Am =>
            if ok=true then wpAny (model prog w) A (eval elt env) (λx yq =>
              wpAny (model prog w) A (call (.builtin "list.append") [aI,x]) (λ_ An=>∃m,m<n/\I m An) (λ_ _=>False) yq) (λ_ _=>False) Am
            else ∃m,m<n/\I m Am) (λ_ _=>False) DA) (λ_ _=>False) Ge) (λ_ _=>False) bL) (λ_ _=>False) s)
    (n:Nat) (h:I n s):codeAny (model prog w) A (.compLoop (.ListComp elt [⟨j7,aH,ifs,0⟩] scope pos) 0 it aI env) R s:=by
  refine codeAny_loop rfl I (λn s hI=>?_) n h;show wpAny _ A ((compTurn (.ListComp elt [⟨j7,aH,ifs,0⟩] scope pos) 0 it aI env).onRaise (λx=>do noteFrame x env;theTreesLotGoes x)) _ _ s;refine wpAny_noted ?_;rw[compTurn_list];refine aq (xP (aq (j4 (zR n s hI) (λr bL DY=>?_) λ_ _ h'=>h'.elim)))
  cases r with
  | none=>exact aZ DY
  | some v =>
    refine aq (j4 DY (λ_ Ge Nq=>?_) λ_ _ h'=>h'.elim);refine aq (j4 Nq (λ_ DA R8=>aq (j4 R8 (λok Am Nr=>?_) λ_ _ h'=>h'.elim)) λ_ _ h'=>h'.elim)
    cases ok with
    | false=>exact aZ ⟨rfl,Nr⟩
    | true =>
      exact aq (aq (j4 Nr (λx yq R9=>aq (j4 R9 (λ_ An R_=>aZ (aZ ⟨rfl,R_⟩)) λ_ _ h'=>h'.elim)) λ_ _ h'=>h'.elim))
end
theorem cx{x:Str}:∀(names:List (Str×NameKind))(n:Nat)(aI:List (Str×Addr)),(x,NameKind.cell)∉names->(cellsFrom n names aI).lookup x=aI.lookup x
 | [],_,_,_=>rfl
 | (y,k)::r,n,aI,h=>by
  unfold cellsFrom;split
  ·rename_i hk
   have hk:k=.cell:=eq_of_beq hk;subst hk;rw[cx r (n+1) _ (λz=>h (dB _ z)),dm];have:(x==y)=false:=iR.mpr λz=>h (by subst z;exact dD);rw[this]
  ·exact cx r n aI λz=>h (dB _ z)
theorem fH{x:Str}{c:Addr}:∀(names:List (Str×NameKind))(n:Nat)(aI:List (Str×Addr)),(x,NameKind.cell)∈names->(cellsFrom n names aI).lookup x=some c->n<=c
 | [],_,_,h,_=>by cases h
 | (y,k)::r,n,aI,h,e=>by
  unfold cellsFrom at e;split at e
  ·by_cases hr:(x,NameKind.cell)∈r
   ·exact zq (fH r (n+1) _ hr e)
   ·rw[cx r (n+1) _ hr,dm]at e
    have:x=y:=by
     rcases cq.mp h with z | z
     ·exact(Prod.mk.inj z).1
     ·exact absurd z hr
    subst this;simp at e;exact xV e
  ·rename_i hk
   rcases cq.mp h with z | z
   ·exact absurd (by rw[<- (Prod.mk.inj z).2];rfl) hk
   ·exact fH r n aI z e
theorem fJ{x:Str}:∀(names:List (Str×NameKind))(n:Nat)(aI:List (Str×Addr)),(x,NameKind.cell)∈names->∃c,(cellsFrom n names aI).lookup x=some c
 | [],_,_,h=>by cases h
 | (y,k)::r,n,aI,h=>by
  unfold cellsFrom;split
  ·by_cases hr:(x,NameKind.cell)∈r
   ·exact fJ r (n+1) _ hr
   ·rw[cx r (n+1) _ hr,dm]
    have:x=y:=by
     rcases cq.mp h with z | z
     ·exact(Prod.mk.inj z).1
     ·exact absurd z hr
    subst this;simp
  ·rename_i hk
   rcases cq.mp h with z | z
   ·exact absurd (by rw[<- (Prod.mk.inj z).2];rfl) hk
   ·exact fJ r n aI z
theorem fK:∀(names:List (Str×NameKind))(n:Nat)(aI:List (Str×Addr)),(∀x c,aI.lookup x=some c->c<n)->(∀x y c,aI.lookup x=some c->aI.lookup y=some c->x=y)->∀x y c,(cellsFrom n names aI).lookup x=some c->(cellsFrom n names aI).lookup y=some c->x=y
 | [],_,_,_,h=>h
 | (z,k)::r,n,aI,hb,h=>by
  unfold cellsFrom;split
  ·refine fK r (n+1) _ (λx c e=>?_) (λx y c e1 e2=>?_)
   ·rw[dm]at e;split at e
    ·cases e;exact xH _
    ·exact C6 (hb x c e)
   ·rw[dm]at e1 e2;split at e1
    ·rename_i hx
     cases e1;split at e2
     ·rename_i hy
      rw[eq_of_beq hx,eq_of_beq hy]
     ·exact absurd (hb y _ e2) (lN _)
    ·split at e2
     ·cases e2;exact absurd (hb x _ e1) (lN _)
     ·exact h x y c e1 e2
  ·exact fK r n aI hb h
theorem e9{x:Str}{c:Addr}:∀(names:List (Str×NameKind))(h:Heap)(aI:List (Str×Addr)),(cellsFrom h.objs.size names aI).lookup x=some c->aI.lookup x=some c\/(h.objs.size<=c/\(pushCells h names).IsCell c none)
 | [],_,_,e=>.inl e
 | (z,k)::r,h,aI,e=>by
  unfold cellsFrom at e;unfold pushCells;split at e
  ·rename_i hk
   rw[aU hk];have e':(cellsFrom (h.push {cls:=.type "cell",data:=.cell none}).objs.size r ((z,h.objs.size)::aI)).lookup x=some c:=by rw[m_];exact e
   rcases e9 r (h.push {cls:=.type "cell",data:=.cell none}) _ e' with q | ⟨q1,q2⟩
   ·rw[dm]at q;split at q
    ·cases q;exact .inr ⟨ar _,_,pushCells_keeps _ _ _ _ (fm _ rfl),rfl⟩
    ·exact .inl q
   ·rw[m_]at q1;exact .inr ⟨zq q1,q2⟩
  ·rename_i hk
   rw[aX hk];exact e9 r h aI e
theorem pM {M : Model} {A : Around} {E : Value -> Shared -> Prop} {s : Shared} {scope : Scope} {globals : Addr} {cl : List (Str × Addr)} {qual : Str} {outer : Env} {Q : Env -> Shared -> Prop}
    (hQ:Q {scope:=scope,locals:=s.heap.objs.size,globals:=globals,cells:=cellsFrom (s.heap.objs.size+1) scope.names cl,qual:=qual,func:=none,code:=outer.code,frame:=outer.frame,builtins:=outer.builtins}
      {s with heap:=pushCells (s.heap.push {cls:=.type "dict",data:=.dict #[]}) scope.names}) :
    wpAny M A (newFunctionEnv scope globals cl [] qual none .none (some outer)) Q E s:=by
  simp only[newFunctionEnv,Option.isSome_some,dE];refine aq (wpAny_alloc ?_);refine aq (wpAny_layCells _ (λname kind cells=>by cases Wl:kind==NameKind.cell<;>simp[Wl]) _ _ _ _ ?_);rw[show({s with heap:=s.heap.push {cls:=.type "dict",data:=.dict #[]}}:Shared).heap.objs.size=s.heap.objs.size+1 from m_ ..];rw[List.forIn_nil];exact aq (aZ (aZ hQ))
noncomputable def Cx.block(X:Cx)(scope:Scope)(cl:List (Str×Addr))(C:Addr)(N':List Str)(s:Shared)(H:Hp)(fp:List Addr)(pn:List (Addr×Obj)):Cx :=
 {X with N:=N',dr:=s,lO:=H,env:=compEnvC scope (cellsFrom (C+1) scope.names cl) C X.env,outer:=X.stack,ex:=fp,fn:=λx=>scope.names.lookup x==some .cell,pn:=pn,xe:=λ_ _=>False}
structure IF (X:Cx) (scope:Scope) (cl:List (Str×Addr)):Prop where
 is:closureFor scope X.env=pure cl
 sub:∀x c,cl.lookup x=some c->X.env.cells.lookup x=some c
 has:∀x,scope.names.lookup x=some .free->∃c,cl.lookup x=some c
theorem du {env : Env} : ∀ {names : List (Str × NameKind)} {x : Str} {k : NameKind}, names.lookup x = some k ->
    (names.map λ(n,k)=>if (k==NameKind.free&&env.scope.kind == .function&&env.kindOf n==some .cell) then (n,NameKind.cell) else (n,k)).lookup x =
      some (if (k==NameKind.free&&env.scope.kind == .function&&env.kindOf x==some .cell) then .cell else k)
  | [],_,_,h=>by simp at h
  | (n,k')::r,x,k,h=>by
    have ih:=@du env r x k;show List.lookup x ((if (k'==NameKind.free&&env.scope.kind == .function&&env.kindOf n==some .cell)=true then (n,NameKind.cell) else (n,k'))::_)=_
    cases hx:x==n with
    | true =>
      simp only[dm,hx]at h;cases h;have e:x=n:=by simpa using hx
      subst e;split<;>simp[dm]
    | false =>
      simp only[dm,hx]at h;by_cases hc:(k'==NameKind.free&&env.scope.kind == .function&&env.kindOf n==some .cell)=true
      · rw[aU hc];simp only[dm,hx];exact ih h
      · rw[aX hc];simp only[dm,hx];exact ih h
theorem iY {env : Env} : ∀ {names : List (Str × NameKind)} {x : Str} {k : NameKind},
    (names.map λ(n,k)=>if (k==NameKind.free&&env.scope.kind == .function&&env.kindOf n==some .cell) then (n,NameKind.cell) else (n,k)).lookup x=some k ->
      ∃k',names.lookup x=some k'/\k=(if (k'==NameKind.free&&env.scope.kind == .function&&env.kindOf x==some .cell) then .cell else k')
  | names,x,k,h=>by
    cases q:names.lookup x with
    | some k' =>
      have:=du (env:=env) q;rw[this]at h;exact⟨k',rfl,(cu h).symm⟩
    | none =>
      exfalso
      induction names with
      | nil=>simp at h
      | cons a r ih =>
        obtain⟨n,k'⟩:=a
        cases hx:x==n with
        | true=>simp[dm,hx]at q
        | false =>
          simp only[dm,hx]at q;have h':List.lookup x ((if (k'==NameKind.free&&env.scope.kind == .function&&env.kindOf n==some .cell)=true then (n,NameKind.cell) else (n,k'))::(r.map λ(n,k)=>if (k==NameKind.free&&env.scope.kind == .function&&env.kindOf n==some .cell) then (n,NameKind.cell) else (n,k)))=some k:=h;by_cases hc:(k'==NameKind.free&&env.scope.kind == .function&&env.kindOf n==some .cell)=true
          · rw[aU hc]at h';simp only[dm,hx]at h';exact ih h' q
          · rw[aX hc]at h';simp only[dm,hx]at h';exact ih h' q
noncomputable def jv(cz:List (Option Nat))(σ:St):St:=cz.map λo=>o.bind λj=>(σ[j]?).join
structure Ao (X:Cx) (scope:Scope) (N':List Str) (cz:List (Option Nat)):Prop where
 len:cz.length=N'.length
 out:∀(i j:Nat)(x:Str),cz[i]?=some (some j)->N'[i]?=some x->X.N[j]?=some x/\scope.names.lookup x=some .free/\(X.env.kindOf x=some .cell\/X.env.kindOf x=some .free)
section
variable {X:Cx} {aa:List (Addr×Obj)} {σ:St} {H:Hp} {s:Shared} {scope:Scope} {cl:List (Str×Addr)} {N':List Str} {cz:List (Option Nat)} {fp:List Addr}
theorem rP{h1:Heap}(I:Inv X aa σ H s)(z0:scope.kind=.function)(vA:∀y∈scope.names,y.2=.cell->scope.names.lookup y.1=some .cell)(cs:IF X scope cl)(co:Ao X scope N' cz)(hf:∀b∈fp,lh X aa H b)(ho:∀b∈fp,b<s.heap.objs.size)(md:h1.Ns s.heap.objs.size (λ_=>none))(hk:∀b u,s.heap.get? b=some u->h1.get? b=some u)(lp:∀x c,(cellsFrom (s.heap.objs.size+1) scope.names cl).lookup x=some c->cl.lookup x=some c\/(s.heap.objs.size+1<=c/\h1.IsCell c none))(tk:Nat):Inv (X.block scope cl s.heap.objs.size N' s H fp []) [] (jv cz σ) H {s with heap:=h1,toks:=tk}:=by
 have I1:Inv X aa σ H {s with heap:=h1,toks:=tk}:=I.kept hk
 have F1:∀x c,cl.lookup x=some c->c<s.heap.objs.size:=λx c e=>by
  obtain⟨v,q⟩:=I.cell x c (cs.sub x c e);exact q.lt
 have fr:H s.heap.objs.size=none:=I.bc.fresh (ar _)
 have same:∀x,scope.names.lookup x=some .free->(cellsFrom (s.heap.objs.size+1) scope.names cl).lookup x=cl.lookup x:=λx hx =>
  cx _ _ _ λz=>by have:=vA _ z rfl;rw[hx]at this;cases this
 refine⟨⟨I.ok.mod,z0,I.ok.glob,I.ok.blt,ar _,fK _ _ _ (λx c e=>C6 (F1 x c e)) (λx y c a b=>I.ok.inj x y c (cs.sub _ _ a) (cs.sub _ _ b)),λx hx=>?_,λx c z e=>?_,I.ok.hd,I.ok.frames,.inl rfl,λb hb=>⟨?_,λx c e=>?_⟩,λb o e=>I.bs b o e,
  bJ I.ok.CI I.sz,λb o e hb=>?_,λb hb CM=>?_,I.stack,I.pf⟩,rfl,I.bare,Un.kept hk,⟨_,md,λi x v e1 e2 e3=>?_⟩,λx c e=>?_,fr,λx c e=>?_,λp hp=>?_,I.bc.kept hk,?_⟩
 ·have hx:(relabel scope X.env).names.lookup x=some .cell\/(relabel scope X.env).names.lookup x=some .free:=hx
  have nu:∃k',scope.names.lookup x=some k'/\(k'=.free\/k'=.cell):=by
   have go:∀k,(k=.cell\/k=.free)->(relabel scope X.env).names.lookup x=some k->∃k',scope.names.lookup x=some k'/\(k'=.free\/k'=.cell):=by
    intro k hk hx;obtain⟨k',e,ek⟩:=iY hx;refine⟨k',e,?_⟩;by_cases z:k'=.free
    ·exact .inl z
    ·rw[aX (by cases k'<;>first | exact absurd rfl z | simp)]at ek;subst ek;rcases hk with hk | hk
     ·exact .inr hk
     ·exact .inl hk
   rcases hx with hx | hx
   ·exact go _ (.inl rfl) hx
   ·exact go _ (.inr rfl) hx
  obtain⟨k',e,DZ⟩:=nu;show ∃c,(cellsFrom (s.heap.objs.size+1) scope.names cl).lookup x=some c;rcases DZ with z | z
  ·subst z;rw[same x e];exact cs.has x e
  ·subst z;exact fJ _ _ _ (jY e)
 ·have z:(scope.names.lookup x==some .cell)=true:=z;have z:scope.names.lookup x=some .cell:=eq_of_beq z;exact zq (fH _ _ _ (jY z) e)
 ·exact eW (ho b hb)
 ·rcases lp x c e with q | ⟨q,_⟩
  ·exact(hf b hb).2.2.2.2.1 x c (cs.sub x c q)
  ·have P_:=ho b hb;intro z;rw[z]at q;exact absurd P_ (Nat.not_lt_of_le (zq q))
 ·rcases(hf b hb).2.2.2.1 with z | z
  ·exact I.ok.x6 b o e z
  ·have h1:=bE e;have h2:=I.ok.CI;exact absurd (ft h1 (bJ h2 z)) (lN _)
 ·rcases cq.mp (I.pe b CM)with z | z
  ·exact(hf b hb).2.1 z
  ·exact(hf b hb).2.2.1 z
 ·have e1:N'[i]?=some x:=e1;unfold jv at e2;rw[ji]at e2
  cases q:cz[i]? with
  | none=>rw[q]at e2;cases e2
  | some oj =>
   rw[q]at e2
   cases oj with
   | none=>cases e2
   | some j =>
    have Nt:(σ[j]?).join=some v:=cu e2
    have Sa:σ[j]?=some (some v):=by
     cases r:σ[j]? with
     | none=>rw[r]at Nt;cases Nt
     | some ov=>rw[r]at Nt;cases ov with
      | none=>cases Nt
      | some z=>cases Nt;rfl
    obtain⟨o1,o2,o3⟩:=co.out i j x q e1;obtain⟨m,hn,hl⟩:=I1.loc;obtain⟨u,r,l⟩:=hl j x v o1 Sa (o3.elim (λz=>.inr (.inl z)) λz=>.inr (.inr z));refine⟨u,r,.inr ⟨?_,?_⟩⟩
    ·show(relabel scope X.env).names.lookup x=some .cell\/(relabel scope X.env).names.lookup x=some .free;rw[show(relabel scope X.env).names.lookup x=_ from du o2];split
     ·exact .inl rfl
     ·exact .inr rfl
    ·obtain⟨c,hc⟩:=cs.has x o2;have y8:=cs.sub x c hc;rcases l with⟨DZ,hm⟩|⟨_,c2,Gd,IG⟩
     ·exfalso;rw[DZ]at o3;rcases o3 with o3 | o3<;>cases o3
     ·rw[y8]at Gd;cases Gd;exact⟨c,(same x o2).trans hc,IG⟩
 ·rcases lp x c e with q | ⟨_,q⟩
  ·exact I1.cell x c (cs.sub x c q)
  ·exact⟨none,q⟩
 ·rcases lp x c e with q | ⟨q,_⟩
  ·exact I1.fR x c (cs.sub x c q)
  ·exact I.bc.fresh (zq q)
 ·exact absurd (show p∈([]:List (Addr×Obj)) from hp) (by simp)
 ·show(jv cz σ).length=N'.length;unfold jv;rw[cM];exact co.len
end
noncomputable def Sb:Option TT->TT
 | none=>λ_ H Q=>Q true H
 | some t=>t
def uk(cz:List (Option Nat))(g:TG)(tc:Option TT)(te:TE)(σ:St)(J:It)(H1:Hp)(Q:V->Hp->Prop):Prop :=
 ∀D,H1 D=none->∃W:Nat->Nat->St->Hp->List V->Prop,(∃m,W 0 m (jv cz σ) (a_ H1 D (.lst [])) []) /\
  ∀i m τ H ys,W i m τ H ys->H D=some (.lst ys)/\((J.stop i H/\Q (.ref D) H) \/
   (J.go i H/\ys.length<sizeLine/\∀x H',J.Lb i H x H'->g x τ H' λCN H2=>Sb tc CN H2 λb H3 =>
    if b=true then te CN H3 λv H4=>H4 D=some (.lst ys)/\∃m',m'<m/\W (i+1) m' CN (a_ H4 D (.lst (ys++[v]))) (ys++[v])
    else ∃m',m'<m/\W (i+1) m' CN H3 ys))
def vM(cz:List (Option Nat))(wi:TI)(g:TG)(tc:Option TT)(te:TE):TE:=λσ H Q=>wi σ H λJ H1=>uk cz g tc te σ J H1 Q
def Nu(X:Cx)(scope:Scope)(N':List Str)(cl:List (Str×Addr))(ifs:List Expr):Option TT->Prop
 | none=>ifs=[]
 | some t=>∃c,ifs=[c]/\∀C s H fp,PT (X.block scope cl C N' s H fp []) c t
structure kc (X:Cx) (scope:Scope) (N':List Str) (cz:List (Option Nat)) (cl:List (Str×Addr)) (tg elt:Expr) (ifs:List Expr) (g:TG) (tc:Option TT) (te:TE):Prop where
 kind:scope.kind=.function
 IH:∀y∈scope.names,y.2=.cell->scope.names.lookup y.1=some .cell
 names:∀y∈scope.names,y.2=.local->scope.names.lookup y.1=some .local
 II:IF X scope cl
 Sd:Ao X scope N' cz
 tg:∀C s H fp,PG (X.block scope cl C N' s H fp []) tg g
 ifs:Nu X scope N' cl ifs tc
 elt:∀C s H fp,PE (X.block scope cl C N' s H fp []) elt te
section
variable {X:Cx} {scope:Scope} {N':List Str} {cz:List (Option Nat)} {cl:List (Str×Addr)} {tg elt aH:Expr} {ifs:List Expr} {g:TG} {tc:Option TT} {te:TE} {pos:Pos}
theorem rQ {aa : List (Addr × Obj)} {s2 : Shared} {σ : St} {H2 : Hp} {it : Addr} {fp : List Addr} {tn : Nat -> Heap -> Prop} {J : It} {E : Value -> Shared -> Prop} {Q : V -> Hp -> Prop} {RR : Value -> Addr -> Result -> Shared -> Prop}
    (hc:X.calm=true) (ck:kc X scope N' cz cl tg elt ifs g tc te) (I2:Inv X aa σ H2 s2) (T:t7 X.prog X.w X.K tg J fp it tn) (Dw:tn 0 s2.heap) (f2:∀b∈fp,lh X aa H2 b) (h:uk cz g tc te σ J H2 Q)
    (Wm:∀(D C:Addr)(H':Hp)(s':Shared)(m:Str->Option Value),Inv X aa σ H' s'->s'.heap.Ns C m->H' C=none->X.dr.heap.objs.size<=C->C≠X.env.locals->C∉X.fs->(∀x c,X.env.cells.lookup x=some c->c≠C)->(∀p∈X.pn++aa,p.1≠C)->Q (.ref D) H'->RR (.ref D) C (.ok .next) s') :
    wpAny (model X.prog X.w) X.A (newList []) (λaI Am=>wpAny (model X.prog X.w) X.A (newFunctionEnv scope X.env.globals cl [] X.env.qual none .none (some X.env)) (λNv yq =>
      codeAny (model X.prog X.w) X.A (.compStart (.ListComp elt [⟨tg,aH,ifs,0⟩] scope pos) 0 (.ref it) aI {Nv with scope:=relabel scope X.env}) (RR aI Nv.locals) yq) E Am) E s2:=by
  refine qX ?_;generalize hH:s2.heap.push {cls:=.type "list",dict:=none,data:=.seq ([]:List Value).toArray}=hh;have hD:H2 s2.heap.objs.size=none:=I2.bc.fresh (ar _);have k3:∀b u,s2.heap.get? b=some u->hh.get? b=some u:=λb u e=>by rw[<- hH];exact cA _ e
  have I3:Inv X aa σ (a_ H2 s2.heap.objs.size (.lst [])) {s2 with heap:=hh} :=
    I2.laid (t':=s2.toks) k3 (ar _) ⟨jk _,[],0,.nil,by rw[<- hH];exact fm _ rfl⟩
  have f3:∀b∈fp,lh X aa (a_ H2 s2.heap.objs.size (.lst [])) b:=λb hb=>by
    obtain⟨o,e,_⟩:=T.obj _ _ Dw b hb;exact⟨by rw[ai (eW (bE e))];exact(f2 b hb).1,(f2 b hb).2⟩
  have b3:∀b∈fp,b<hh.objs.size:=λb hb=>by
    obtain⟨o,e,_⟩:=T.obj _ _ Dw b hb;exact bE (k3 b o e)
  have P4:tn 0 hh:=T.keep _ _ _ Dw λb hb o e=>k3 b o e;obtain⟨W,⟨m0,w0⟩,zR⟩:=h s2.heap.objs.size hD;refine pM (s:={s2 with heap:=hh}) ?_;have k4:∀b u,hh.get? b=some u->(pushCells (hh.push {cls:=.type "dict",data:=.dict #[]}) scope.names).get? b=some u:=λb u e=>pushCells_keeps _ _ b u (cA _ e);have Nw:(pushCells (hh.push {cls:=.type "dict",data:=.dict #[]}) scope.names).Ns hh.objs.size (λ_=>none):=(Heap.Ns.new hh (.type "dict")).keeps (pushCells_keeps _ _)
  have lp:∀x c,(cellsFrom (hh.objs.size+1) scope.names cl).lookup x=some c->cl.lookup x=some c\/(hh.objs.size+1<=c/\(pushCells (hh.push {cls:=.type "dict",data:=.dict #[]}) scope.names).IsCell c none):=λx c e=>by
    have:=e9 (x:=x) (c:=c) scope.names (hh.push {cls:=.type "dict",data:=.dict #[]}) cl (by rw[m_];exact e);rw[m_]at this;exact this
  generalize hh1:pushCells (hh.push {cls:=.type "dict",data:=.dict #[]}) scope.names=DY at k4 Nw lp;have Qa:tn 0 DY:=T.keep _ _ _ P4 λb hb o e=>k4 b o e;have I4:=rP (tk:=s2.toks) I3 ck.kind ck.IH ck.II ck.Sd f3 b3 Nw k4 lp;generalize hX:X.block scope cl hh.objs.size N' {s2 with heap:=hh} (a_ H2 s2.heap.objs.size (.lst [])) fp []=X' at I4;have om:X'.prog=X.prog:=by rw[<- hX];rfl
  have xw:X'.w=X.w:=by rw[<- hX];rfl
  have xK:X'.K=X.K:=by rw[<- hX];rfl
  have xA:X'.A=X.A:=by rw[<- hX];rfl
  have xc:X'.calm=true:=by rw[<- hX];exact hc
  have D0:X'.env=compEnvC scope (cellsFrom (hh.objs.size+1) scope.names cl) hh.objs.size X.env:=by rw[<- hX];rfl
  have Qb:X'.xe=λ_ _=>False:=by rw[<- hX];rfl
  have Se:∀{H':Hp},(∀b∈fp,H' b=none)->∀b∈fp,lh X' [] H' b:=λ{H'} hn b hb=>by
    have z:=I4.ok.PY b (by rw[<- hX];exact hb);exact⟨hn b hb,z.1,I4.ok.x8 b (by rw[<- hX];exact hb),.inl (by rw[<- hX];exact hb),z.2,λp hp=>absurd (show p∈([]:List (Addr×Obj)) by rw[<- hX]at hp;exact hp) (by simp)⟩
  have UX:=ck.tg hh.objs.size {s2 with heap:=hh} (a_ H2 s2.heap.objs.size (.lst [])) fp;have Nx:=ck.ifs;have Ny:=ck.elt hh.objs.size {s2 with heap:=hh} (a_ H2 s2.heap.objs.size (.lst [])) fp;rw[hX]at UX Ny
  have loop : ∀ s4 : Shared, Inv X' [] (jv cz σ) (a_ H2 s2.heap.objs.size (.lst [])) s4 -> tn 0 s4.heap ->
      codeAny (model X.prog X.w) X.A (.compLoop (.ListComp elt [⟨tg,aH,ifs,0⟩] scope pos) 0 (.ref it) (.ref s2.heap.objs.size) (compEnvC scope (cellsFrom (hh.objs.size+1) scope.names cl) hh.objs.size X.env)) (RR (.ref s2.heap.objs.size) hh.objs.size) s4:=by
    intro s4 I4 Qa;refine pL (λn s'=>∃i τ H' ys,Inv X' [] τ H' s'/\tn i s'.heap/\(∀b∈fp,H' b=none)/\W i n τ H' ys) ?_ m0 ⟨0,_,_,[],I4,Qa,λb hb=>(f3 b hb).1,w0⟩;rintro n s5 ⟨i,τ,H5,ys,I5,Lc,Dz,w5⟩;obtain⟨Lh,stop | ⟨go,hz,step⟩⟩:=zR i n τ H5 ys w5
    · have td:=T.done X' om xw xK xc i [] s5 τ H5 (λ_ _=>False) I5 (Se Dz) Lc stop.1;rw[xA]at td;refine bV td ?_;rintro r s6 ⟨rfl,I6⟩;have base:=I6.base;have os:=I6.os;have bc:=I6.bc;have rp:=I6.free;obtain⟨m,hm,_⟩:=I6.loc;rw[D0]at rp hm;rw[<- hX]at base os bc;refine Wm _ _ H5 s6 m (I3.zG (ch:=fp) os base bc I6.bare λb hb=>⟨(f3 b hb).2.2.2.1,(f3 b hb).2.1,(f3 b hb).2.2.2.2.1,(f3 b hb).2.2.2.2.2⟩) hm rp I3.sz (zC I3.lt) (I3.Mk (ar _)) (λx c e z=>?_) (λp hp z=>?_) stop.2
      · obtain⟨v,q⟩:=I3.cell x c e;exact absurd q.lt (by rw[z];exact lN _)
      · exact absurd (bE (I3.pin p hp).1) (by rw[z];exact lN _)
    · have ti:=T.item X' om xw xK xc i [] s5 τ H5 (λ_ _=>False) I5 (Se Dz) Lc go;rw[xA]at ti;refine bV ti ?_;rintro r s6 ⟨u,rfl,h6⟩;refine bV h6 ?_;rintro _ s7 ⟨x,H7,I7,r7,y7,Sf,Nz⟩;have Wn:=I7.pinned (Se Nz) (T.obj _ _ Sf);have ga:=UX _ s7 τ H7 x u _ Wn r7 (step x H7 y7);rw[om,xw,xA,Qb,D0]at ga;refine bV ga ?_;rintro _ s8 ⟨Gf,H8,I8,q8⟩
      have eY:∀{Qc:St}{H9:Hp}{s9:Shared}{Sg:List V},Inv X' ([]++j8 fp s7.heap) Qc H9 s9->(∃m',m'<n/\W (i+1) m' Qc H9 Sg)->∃m',m'<n/\∃i τ H' ys,Inv X' [] τ H' s9/\tn i s9.heap/\(∀b∈fp,H' b=none)/\W i m' τ H' ys:=λ{Qc H9 s9 Sg} I9 w9=>by
        obtain⟨m',hm,w9⟩:=w9;refine⟨m',hm,i+1,Qc,H9,Sg,I9.gQ,T.keep _ _ _ Sf λb hb o e=>(I9.pin (b,o) (fP _ (fP _ (gj hb e)))).1,λb hb=>?_,w9⟩;obtain⟨o,e,d⟩:=T.obj _ _ Sf b hb;exact(I9.pin (b,o) (fP _ (fP _ (gj hb e)))).2.1
      have gP:∀b s9,TP X' ([]++j8 fp s7.heap) Gf (λb H3 =>
        if b=true then te Gf H3 λv H4=>H4 s2.heap.objs.size=some (.lst ys)/\∃m',m'<n/\W (i+1) m' Gf (a_ H4 s2.heap.objs.size (.lst (ys++[v]))) (ys++[v])
        else ∃ m', m' < n /\ W (i + 1) m' Gf H3 ys) b s9 -> (if b = true then wpAny (model X.prog X.w) X.A (eval elt (compEnvC scope (cellsFrom (hh.objs.size + 1) scope.names cl) hh.objs.size X.env)) (fun x yq =>
              wpAny (model X.prog X.w) X.A (call (.builtin "list.append") [.ref s2.heap.objs.size,x]) (λ_ An=>∃m,m<n/\∃i τ H' ys,Inv X' [] τ H' An/\tn i An.heap/\(∀b∈fp,H' b=none)/\W i m τ H' ys) (λ_ _=>False) yq) (λ_ _=>False) s9
            else ∃m,m<n/\∃i τ H' ys,Inv X' [] τ H' s9/\tn i s9.heap/\(∀b∈fp,H' b=none)/\W i m τ H' ys):=by
        rintro b s9 ⟨H9,I9,q9⟩
        cases b with
        | false=>rw[aX (by simp)]at q9⊢;exact eY I9 q9
        | true =>
          rw[aU rfl]at q9⊢;have ge:=Ny _ s9 Gf H9 _ I9 q9;rw[om,xw,xA,Qb,D0]at ge;refine bV ge ?_;rintro v Wo ⟨y,Wq,Wr,Ws,Wt,Wu⟩;have ap:=og (X:=X') _ Wo Gf Wq (.ref s2.heap.objs.size) [y] (.ref s2.heap.objs.size) [v] (λ_ H'=>∃m',m'<n/\W (i+1) m' Gf H' (ys++[y])) Wr rfl (.cons Ws .nil) ⟨_,ys,y,rfl,rfl,Wt,hz,Wu⟩;rw[om,xw,xA,Qb]at ap;exact bV ap λ_ s11 ⟨_,H11,Wv,_,Ww⟩=>eY Wv Ww
      cases tc with
      | none =>
        have ei:ifs=[]:=Nx;subst ei;exact wpAny_tests_nil (gP true s8 ⟨H8,I8,q8⟩)
      | some t =>
        obtain⟨c,ei,pt⟩:=Nx;subst ei;have pt:=pt hh.objs.size {s2 with heap:=hh} (a_ H2 s2.heap.objs.size (.lst [])) fp;rw[hX]at pt;refine wpAny_tests_one ?_;have gt:=pt _ s8 Gf H8 _ I8 q8;rw[om,xw,xA,Qb,D0]at gt;exact bV gt λb s9 q=>gP b s9 q
  have Gg:=loop _ I4 Qa;exact codeAny_compStart_list Gg (T.self _ 0 _ _ _ Qa Gg)
end
section
variable {X:Cx} {scope:Scope} {N':List Str} {cz:List (Option Nat)} {cl:List (Str×Addr)} {tg elt aH:Expr} {ifs:List Expr} {g:TG} {tc:Option TT} {te:TE} {wi:TI} {pos:Pos}
theorem D1(hc:X.calm=true)(hi:PI X tg aH wi)(ck:kc X scope N' cz cl tg elt ifs g tc te)(hs:∀x,foldedSetIterable aH X.env x=pure x:=by intro _;rfl):PE X (.ListComp elt [⟨tg,aH,ifs,0⟩] scope pos) (vM cz wi g tc te):=by
 intro aa s σ H Q I h;rw[eval_ListComp];refine wpAny_comprehension_free (use:=none) rfl hs ck.II.is ck.kind ck.names (bV (hi aa s σ H _ I h) λv s1 h1=>bV h1 λP1 s2 h2=>?_);obtain⟨it,fp,tn,J,H2,e,I2,T,Dw,f2,hC⟩:=h2;subst e;refine rQ (Q:=Q) (RR:=λaI C=>compPost (model X.prog X.w) X.A X.xe none (EP X aa σ Q) aI C) hc ck I2 T Dw f2 hC ?_;intro D C H' s' m I' hm Ap Si Qd UY Sj Sk q;refine⟨m,hm,λh' Sl=>?_⟩;exact⟨.ref D,H',I'.turned (t':=s'.toks) (λb o hb e=>Sl.extBut b o hb e) Ap (dq (dq Qd)) (.inr Si) Sj Sk,rfl,q⟩
theorem D2{y:Str}{py NA:Pos}{i:Nat}(hc:X.calm=true)(hN:X.N.Nodup)(hy:X.N[i]?=some y)(hk:X.env.kindOf y=some .local)(NB:swapsWith (.ListComp elt [⟨tg,aH,ifs,0⟩] scope pos) (some (.Name y py)) NA.line X.env=pure true)(hi:PI X tg aH wi)(ck:kc X scope N' cz cl tg elt ifs g tc te)(hs:∀x,foldedSetIterable aH X.env x=pure x:=by intro _;rfl):PS X (.Assign [.Name y py] (.ListComp elt [⟨tg,aH,ifs,0⟩] scope pos) NA) (λD σ H=>vM cz wi g tc te σ H λv H'=>D.nx (σ.set i (some v)) H'):=by
 intro aa s σ H D I h;rw[exec_Assign_Name_used _ _ _ _ NB];refine aq (xP (aq ?_));show wpAny _ X.A (do let _ <- comprehension (.ListComp elt [⟨tg,aH,ifs,0⟩] scope pos) scope X.env _ (newList []) false (eval aH X.env) (some (assign (.Name y py) X.env))) _ _ s;refine aq (j4 (wpAny_comprehension_free (use:=some (assign (.Name y py) X.env)) (Q:=λ_ s'=>SP X aa D .next s') rfl hs ck.II.is ck.kind ck.names (bV (hi aa s σ H _ I h) λv s1 h1=>bV h1 λP1 s2 h2=>?_)) (λ_ s' hq=>aZ (aZ hq)) λ_ _ e=>e);obtain⟨it,fp,tn,J,H2,e,I2,T,Dw,f2,hC⟩:=h2;subst e;refine rQ (Q:=λv H'=>D.nx (σ.set i (some v)) H') (RR:=λaI C=>compPost (model X.prog X.w) X.A X.xe (some (assign (.Name y py) X.env)) (λ_ s'=>SP X aa D .next s') aI C) hc ck I2 T Dw f2 hC ?_;intro D' C H' s' m I' hm Ap Si Qd UY Sj Sk q;show wpAny _ X.A (assign (.Name y py) X.env (.ref D')) _ _ s';obtain⟨o,es,ep,ho,hd,NC⟩:=hm
 have Ip:Inv X (aa++[(C,o)]) σ H' s':=I'.ph λp hp=>(gO.mp hp).elim (λz=>I'.pin p (fP _ z)) λz=>by
  have e:p=(C,o):=by simpa using z
  subst e;exact⟨ho,Ap,Qd,UY,λv z=>by rw[hd]at z;cases z⟩
 have st:=lz (pos:=py) hN hy (.inl hk) (.inr hk) _ s' σ H' (.ref D') (.ref D') (λcD H'=>D.nx cD H') Ip rfl q;refine bV st ?_;rintro _ MS ⟨Sm,Wx,UZ,Wy⟩;have pc:=UZ.pin (C,o) (by simp);refine⟨m,⟨o,es,ep,pc.1,hd,NC⟩,λh' Sl=>?_⟩;exact⟨Sm,Wx,UZ.gQ.turned (t':=MS.toks) (λb o hb e=>Sl.extBut b o hb e) pc.2.1 Qd (.inr Si) Sj Sk,Wy⟩
end
end L2
end
section
namespace L2
open PySem PySem.Spec PyProof.Rows
section
variable {prog:Program} {w:World} {A:Around} {E:Value->Shared->Prop} {s:Shared}
noncomputable def vN(prog:Program)(w:World)(A:Around)(s:Shared)(it:Addr)(x:Value)(after:Heap->Prop):Prop :=
 ∀(Q:Value->Shared->Prop)(E:Value->Shared->Prop),(∀h',after h'->Heap.SameBut it s.heap h'->Q x {s with heap:=h'})->wpAny (model prog w) A (Builtin.SmallTypes.nextOf (.ref it)) Q E s
noncomputable def Aq(prog:Program)(w:World)(A:Around)(s:Shared)(it:Addr):Prop :=
 ∀(Q:Value->Shared->Prop)(E:Value->Shared->Prop),(∀h' e,Heap.ExtBut it s.heap h'->(∃o,h'.get? e=some o/\o.cls=.type "StopIteration")->E (.ref e) {s with heap:=h'}) ->
  wpAny (model prog w) A (Builtin.SmallTypes.nextOf (.ref it)) Q E s
theorem um{it l:Addr}{i:Nat}{items:Array Value}{x:Value}(hit:s.heap.IsListIter it l i)(hl:s.heap.IsList l items)(hx:items[i]?=some x):vN prog w A s it x (λh=>h.IsListIter it l (i+1)):=λQ E hq=>wpAny_nextOf_list_item hit hl hx hq
theorem uo{it l:Addr}{i:Nat}{items:Array Value}(hh:A.handled=none)(hit:s.heap.IsListIter it l i)(hl:s.heap.IsList l items)(hx:items[i]?=none):Aq prog w A s it:=λQ E hq=>wpAny_nextOf_list_end hh hit hl hx hq
theorem yr{it t:Addr}{i:Nat}{items:Array Value}{x:Value}(hit:s.heap.IsTupleIter it t i)(ht:s.heap.IsTuple t items)(hx:items[i]?=some x):vN prog w A s it x (λh=>h.IsTupleIter it t (i+1)):=by
 intro Q E hq;obtain⟨o,e1,e2,e3⟩:=id hit;obtain⟨ot,t1,_,nt,t2⟩:=ht;unfold Builtin.SmallTypes.nextOf;refine aq (xx (name:=Str.ofString "__next__") hit.typeIs CS ?_);refine xG CS hit.typeIs F.entry_tuple_iterator_next ?_ (F.args_tuple_iterator_next_1 _);show wpAny _ _ (field (.ref it) 0 >>= _) _ _ s;refine aq (gE e1 e3 (x:=.ref t) rfl ?_);show wpAny _ _ (if (Value.ref t==Value.none)=true then _ else _) _ _ s;rw[aX (by intro z;cases z)];refine aq (gE e1 e3 (x:=.int i 0) rfl (aq (zx t1 t2 ?_)));simp only[oV,hx];refine aq (zy e1 e3 (by simp) (aZ ⟨x,rfl,aZ (hq _ ⟨_,tX _ e1 (Hh (C2 e3 _)),(Obj.cls_mapFields ..).trans e2,?_⟩ (Heap.SameBut.update ..))⟩));rw[C2 e3];simp[rawInt]
theorem yt{it t:Addr}{i:Nat}{items:Array Value}(hh:A.handled=none)(hit:s.heap.IsTupleIter it t i)(ht:s.heap.IsTuple t items)(hx:items[i]?=none):Aq prog w A s it:=by
 intro Q E hq;obtain⟨o,e1,e2,e3⟩:=id hit;obtain⟨ot,t1,_,nt,t2⟩:=ht;unfold Builtin.SmallTypes.nextOf;refine aq (xx (name:=Str.ofString "__next__") hit.typeIs CS ?_);refine xG CS hit.typeIs F.entry_tuple_iterator_next ?_ (F.args_tuple_iterator_next_1 _);show wpAny _ _ (field (.ref it) 0 >>= _) _ _ s;refine aq (gE e1 e3 (x:=.ref t) rfl ?_);show wpAny _ _ (if (Value.ref t==Value.none)=true then _ else _) _ _ s;rw[aX (by intro z;cases z)];refine aq (gE e1 e3 (x:=.int i 0) rfl (aq (zx t1 t2 ?_)));simp only[oV,hx];refine aq (wpAny_rule (aq (zy e1 e3 (by simp) ?_)));show wpAny _ _ (newExc (.type "StopIteration") [] >>= _) _ _ _;refine aq ?_;simp only[newExc,newTuple];refine aq (qX ?_ (by size_fits));refine aq (m:=firstArgMember _ _) (wpAny_of_eq (a:=Value.none) (by first | rfl | (simp only[firstArgMember];rfl)) (qX ?_ (by size_fits)));simp only[raiseNew];refine aq (wpAny_handled ?_)
 first | rw[show A.in1.handled=none from hh] | rw[hh]
 exact aq (aZ (wpAny_throw (hq _ _ (((Heap.SameBut.update ..).extBut.push _).push _) ⟨_,fm _ rfl,rfl⟩)))
theorem yu {e it : Addr} {i : Nat} {x lC : Value} {st : Heap -> Prop} {Q : Option Value -> Shared -> Prop} (he : IsEnum s.heap e it i lC) (mZ : e ≠ it) (yv : it < s.heap.objs.size) (hn : vN prog w A.in1 s it x st)
    (ND:∀h h',st h->(∀o,h.get? it=some o->h'.get? it=some o)->st h')
    (hQ:∀h',IsEnumOut h' e it ((i:Int)+1) x s.heap.objs.size->st h'->h'.get? s.heap.objs.size=some {cls:=.type "tuple",data:=.seq #[.int i s.toks,x]} ->
      (∀b o,b≠e->b≠it->s.heap.get? b=some o->h'.get? b=some o)->Q (some (.ref s.heap.objs.size)) {s with heap:=h',toks:=s.toks+1}) :
    wpAny (model prog w) A (pyNext (.ref e)) Q E s:=by
  have hT:s.TypeIs (.ref e) "enumerate" := ⟨_,he,rfl⟩;unfold pyNext
  refine aq (wpAny_attempt (xx (name:=Str.ofString "__next__") hT CV
    (xG CV hT F.entry_enumerate_next ?_ (F.args_enumerate_next_1 _))))
  obtain⟨hp,g,d,tk,os⟩:=s;show wpAny _ _ (field (.ref e) 2 >>= _) _ _ _;refine aq (gE he rfl (x:=.ref it) rfl (aq (hn _ _ λk1 Li NF=>?_)));have NF:Heap.SameBut it hp k1:=NF;have a1:IsEnum k1 e it i lC:=(NF.2 e mZ).trans he;refine aq (gE (s:=⟨k1,g,d,tk,os⟩) a1 rfl (x:=rawInt i) rfl ?_);refine aq (gE (s:=⟨k1,g,d,tk,os⟩) a1 rfl (x:=.none) rfl ?_);refine aq (wpAny_mkInt (s:=⟨k1,g,d,tk,os⟩) ?_);refine aq (zo (s:=⟨k1,g,d,tk+1,os⟩) a1 (by simp) λk2 a2 Qe=>?_);have Qe:Heap.SameBut e k1 k2:=Qe;have a2:IsEnum k2 e it ((i:Int)+1) lC:=a2;refine aq (zo (s:=⟨k2,g,d,tk+1,os⟩) a2 (by simp) λk3 a3 Qf=>?_);have Qf:Heap.SameBut e k2 k3:=Qf;have a3:IsEnum k3 e it ((i:Int)+1) lC:=a3;refine aq (wpAny_newTuple (s:=⟨k3,g,d,tk+1,os⟩) ?_);have sz:k3.objs.size=hp.objs.size:=by rw[Qf.1,Qe.1,NF.1]
  have el:e<hp.objs.size:=bE he;have Wz:hp.objs.size≠e:=zC el;generalize Sn:k3.push {cls:=.type "tuple",data:=.seq #[.int i tk,x]}=k4;have a4:IsEnum k4 e it ((i:Int)+1) lC:=by rw[<- Sn];exact cA _ a3
  have t4:k4.get? hp.objs.size=some {cls:=.type "tuple",data:=.seq #[.int i tk,x]}:=by rw[<- Sn,<- sz];exact fm _ rfl
  have up:∀b o,b≠e->k1.get? b=some o->k4.get? b=some o:=λb o hb q=>by rw[<- Sn];exact cA _ (Qf.extBut b o hb (Qe.extBut b o hb q))
  dsimp only;rw[sz];refine aq ?_;unfold Builtin.SmallTypes.ownedTupleIsFree;refine aq (gE (s:=⟨k4,g,d,tk+1,os⟩) a4 rfl (x:=.none) rfl (aZ ?_));simp only[dE];refine aq (wpAny_rule (aq (gE (s:=⟨k4,g,d,tk+1,os⟩) a4 rfl (x:=lC) rfl ?_)));refine aq (zo (s:=⟨k4,g,d,tk+1,os⟩) a4 (by simp) λk5 a5 So=>?_);have So:Heap.SameBut e k4 k5:=So;have a5:IsEnum k5 e it ((i:Int)+1) x:=a5;refine aq ?_;unfold Builtin.SmallTypes.ownedTupleHandOut;refine aq (zo (s:=⟨k5,g,d,tk+1,os⟩) a5 (by simp) λk6 a6 Sq=>?_);have Sq:Heap.SameBut e k5 k6:=Sq;have a6:IsEnumOut k6 e it ((i:Int)+1) x hp.objs.size:=a6;refine zo (s:=⟨k6,g,d,tk+1,os⟩) a6 (by simp) λk7 a7 Sr=>?_;have Sr:Heap.SameBut e k6 k7:=Sr;have a7:IsEnumOut k7 e it ((i:Int)+1) x hp.objs.size:=a7;have Ss:∀b o,b≠e->k4.get? b=some o->k7.get? b=some o:=λb o hb q=>Sr.extBut b o hb (Sq.extBut b o hb (So.extBut b o hb q));refine aq (wpAny_letGo (aZ ⟨_,rfl,aZ (hQ k7 a7 ?_ (Ss _ _ Wz t4) ?_)⟩))
  · exact ND k1 k7 Li λo q=>Ss _ _ (dq mZ) (up _ _ (dq mZ) q)
  · intro b o P_ WB q;exact Ss b o P_ (up b o P_ (NF.extBut b o WB q))
theorem rR{e it:Addr}{i:Nat}{lC:Value}{Q:Option Value->Shared->Prop}(he:IsEnum s.heap e it i lC)(hn:Aq prog w A.in1 s it)(hQ:∀h',Heap.ExtBut it s.heap h'->Q none {s with heap:=h'}):wpAny (model prog w) A (pyNext (.ref e)) Q E s:=by
 have hT:s.TypeIs (.ref e) "enumerate" := ⟨_,he,rfl⟩;unfold pyNext
 refine aq (wpAny_attempt (xx (name:=Str.ofString "__next__") hT CV
  (xG CV hT F.entry_enumerate_next ?_ (F.args_enumerate_next_1 _))))
 show wpAny _ _ (field (.ref e) 2 >>= _) _ _ _;refine aq (gE he rfl (x:=.ref it) rfl (aq (hn _ _ λk x hk hx=>?_)));obtain⟨o,ho,hc⟩:=hx;exact aq (wpAny_isInstance (T := "StopIteration") (b:=true) ⟨o,ho,hc⟩ isSubtype_stop (aZ (hQ _ hk)))
end
theorem rS{h:Heap}{o:Obj}{b:Addr}(hb:b≠h.objs.size):(h.push o).get? b=h.get? b:=Heap.get?_push_ne h b o hb
theorem Inv.D3{X:Cx}{aa:List (Addr×Obj)}{σ:St}{H:Hp}{s:Shared}{h':Heap}{t':Nat}{ch:List Addr}(I:Inv X aa σ H s)(k:∀b o,b∉ch->s.heap.get? b=some o->h'.get? b=some o)(hf:∀b∈ch,lh X aa H b):Inv X aa σ H {s with heap:=h',toks:=t'}:=by
 have Mn:∀b u,H b=some u->b∉ch:=λb u e z=>by rw[(hf b z).1]at e;cases e
 refine I.step (g':=s.gens) (d':=s.drawn) (ch:=ch) (λb hb=>⟨(hf b hb).2.2.2.1,(hf b hb).2.1,(hf b hb).2.2.2.2.1,(hf b hb).2.2.2.2.2⟩) (λb o _ _ hc e _=>k b o hc e) (λb o _ _ hc e _=>⟨o.slots,k b o hc e⟩) (λ_ _ _ _ n=>n)
  (λb o hc e=>⟨o,k b o hc e⟩) (λ_ _ e=>e) (λ_ _ _ e=>e) (λb ps e=>⟨#[],by rw[e];simp⟩) (λm hm=>?_) (λb u e=>?_) I.bare
 ·obtain⟨o,es,ep,ho,r⟩:=hm;exact⟨o,es,ep,k _ o (λz=>(hf _ z).2.1 rfl) ho,r⟩
 ·refine(I.bc b u e).nj (λc v hc q=>k c v ?_ q) (λ_ q=>q) λ_ _ q=>q;rcases hc with z | z
  ·rw[z];exact Mn b u e
  ·exact Mn c _ z
def Lj(K:PySem.W.Frag)(H:Hp)(l:Bool)(a:Addr)(xs:List V):Prop:=if l=true then fv K H a xs else fS K H a xs
def Qg(K:PySem.W.Frag)(l:Bool)(a:Addr):It :=
 ⟨λi H=>∃xs x,Lj K H l a xs/\xs[i]?=some x,λi H x H'=>∃p y,x=.ref p/\H p=none/\H'=a_ H p (.tup [.int i,y])/\∀xs,Lj K H l a xs->xs[i]?=some y,λi H=>∃xs,Lj K H l a xs/\xs.length<=i⟩
noncomputable def pN(l:Bool)(h:Heap)(it a:Addr)(i:Nat):Prop:=if l=true then h.IsListIter it a i else h.IsTupleIter it a i
theorem pN.at{l:Bool}{h h':Heap}{it a:Addr}{i:Nat}(x:pN l h it a i)(e:∀o,h.get? it=some o->h'.get? it=some o):pN l h' it a i:=by
 cases l with
 | true=>exact Heap.IsListIter.at (show h.IsListIter it a i from x) e
 | false=>exact Heap.IsTupleIter.at (show h.IsTupleIter it a i from x) e
theorem pN.obj{l:Bool}{h:Heap}{it a:Addr}{i:Nat}(x:pN l h it a i):∃o,h.get? it=some o/\o.data=.fields #[.ref a,.int i 0]:=by
 cases l with
 | true=>obtain⟨o,e,_,d⟩:=(show h.IsListIter it a i from x);exact⟨o,e,d⟩
 | false=>obtain⟨o,e,_,d⟩:=(show h.IsTupleIter it a i from x);exact⟨o,e,d⟩
theorem yw{P:Program}{w:World}{K:PySem.W.Frag}{D4:List Expr}{k:Nat}{tp:Pos}(l:Bool)(a e it:Addr)(mZ:e≠it):t7 P w K (.Tuple D4 k tp) (Qg K l a) [e,it] e (λi h=>(∃lC,IsEnum h e it i lC)/\pN l h it a i) where
  mem:=by simp
  obj:=λi h st b hb=>by
    obtain⟨⟨lC,h1⟩,h2⟩:=st;have hb:b=e\/b=it:=by simpa using hb
    rcases hb with rfl | rfl
    · exact⟨_,h1,λv z=>by have z':Data.fields _=Data.cell v:=z;cases z'⟩
    · obtain⟨o,q,d⟩:=h2.obj;exact⟨o,q,λv z=>by rw[d]at z;cases z⟩
  keep:=λi h h' st k=>by
    obtain⟨⟨lC,h1⟩,h2⟩:=st;exact⟨⟨lC,k e (by simp) _ h1⟩,h2.at λo q=>k it (by simp) o q⟩
  item:=by
    intro X hP hw hK hc i aa s σ H E I hf st hg;subst hP hw hK;obtain⟨⟨lC,h1⟩,h2⟩:=st;obtain⟨xs,x,hq,hx⟩:=hg;have U0:=hf e (by simp);have Gh:=hf it (by simp);obtain⟨oi,qi,di⟩:=h2.obj
    have main : ∀ (u : Value), RelV x u -> vN X.prog X.w X.A.in1 s it u (fun h => pN l h it a (i + 1)) -> (∀ ys, Lj X.K H l a ys -> ys[i]? = some x) ->
        wpAny (model X.prog X.w) X.A (pyNext (.ref e)) (λr s1=>∃u,r=some u /\
          wpAny (model X.prog X.w) X.A (letOwnedTupleGo (.Tuple D4 k tp) (.ref e) u) (λ_ s2=>∃x H',Inv X aa σ H' s2/\RelV x u/\(Qg X.K l a).Lb i H x H'/\((∃lC,IsEnum s2.heap e it ((i+1:Nat):Int) lC)/\pN l s2.heap it a (i+1))/\∀b∈[e,it],H' b=none) E s1) E s:=by
      intro u ru hn uf;refine yu h1 mZ (bE qi) hn (λh h' st hk=>st.at hk) λh' o1 o2 o3 o4=>⟨_,rfl,?_⟩;refine wpAny_letOwnedTupleGo_enum (s:={s with heap:=h',toks:=s.toks+1}) o1 λU1 p1 p2=>?_;have p2:Heap.SameBut e h' U1:=p2;have fr:H s.heap.objs.size=none:=I.bc.fresh (ar _)
      have I1:Inv X aa σ (a_ H s.heap.objs.size (.tup [.int i,x])) {s with heap:=s.heap.push {cls:=.type "tuple",data:=.seq #[.int i s.toks,u]},toks:=s.toks+1} :=
        I.laid (λb o q=>cA _ q) (ar _) ⟨by show 2<=sizeLine;decide,[.int i s.toks,u],.cons ⟨_,rfl⟩ (.cons ru .nil),⟨_,fm _ rfl,rfl,0,rfl⟩⟩
      have WC:e≠s.heap.objs.size:=eW (bE h1);have y_:it≠s.heap.objs.size:=eW (bE qi)
      have U2:∀b∈[e,it],lh X aa (a_ H s.heap.objs.size (.tup [.int i,x])) b:=λb hb=>by
        have CM:b=e\/b=it:=by simpa using hb
        rcases CM with z | z
        · subst z;exact⟨by rw[ai WC];exact U0.1,U0.2⟩
        · subst z;exact⟨by rw[ai y_];exact Gh.1,Gh.2⟩
      have I2:=I1.D3 (h':=U1) (t':=s.toks+1) (ch:=[e,it]) (λb o hb q=>by
        have CM:b≠e/\b≠it:=by simpa using hb
        refine p2.extBut b o CM.1 ?_;by_cases hz:b=s.heap.objs.size
        · subst hz;have q':(s.heap.push {cls:=.type "tuple",data:=.seq #[.int i s.toks,u]}).get? s.heap.objs.size=some _:=fm _ rfl;rw[q']at q;cases q;exact o3
        · have q2 : s.heap.get? b = some o := by
            have yv:=bE q;rw[m_]at yv
            cases hs:s.heap.get? b with
            | some o'=>rw[cA _ hs]at q;exact q
            | none=>exact absurd q (by rw[rS hz,hs];intro z;cases z)
          exact o4 b o CM.1 CM.2 q2) U2
      refine⟨.ref s.heap.objs.size,_,I2,rfl,⟨s.heap.objs.size,x,rfl,fr,rfl,uf⟩,⟨⟨_,p1⟩,o2.at λo q=>p2.extBut _ _ (dq mZ) q⟩,λb hb=>(U2 b hb).1⟩
    cases l with
    | true =>
      have hq:fv X.K H a xs:=hq;obtain⟨aA,rv,p,hz⟩:=I.list hq;obtain⟨u,hu,ru⟩:=rv.get hx;exact main u ru (um (show s.heap.IsListIter it a i from h2) p.isList (by simpa using hu)) λys hy=>by rw[I.rq (show fv X.K H a ys from hy) hq];exact hx
    | false =>
      have hq:fS X.K H a xs:=hq;obtain⟨aA,rv,p,hz⟩:=I.tuple hq;obtain⟨u,hu,ru⟩:=rv.get hx;exact main u ru (yr (show s.heap.IsTupleIter it a i from h2) (show s.heap.IsTuple a aA.toArray from p) (by simpa using hu)) λys hy=>by rw[I.nQ (show fS X.K H a ys from hy) hq];exact hx
  done:=by
    intro X hP hw hK hc i aa s σ H E I hf st hg;subst hP hw hK;obtain⟨⟨lC,h1⟩,h2⟩:=st;obtain⟨xs,hq,hx⟩:=hg;have Gh:=hf it (by simp);have hh:X.A.in1.handled=none:=I.ok.hd hc;have eY:∀h',Heap.ExtBut it s.heap h'->(none:Option Value)=none/\Inv X aa σ H {s with heap:=h'}:=λh' eb=>⟨rfl,I.turned (t':=s.toks) (λb o hb q=>eb b o hb q) Gh.1 Gh.2.1 Gh.2.2.2.1 Gh.2.2.2.2.1 Gh.2.2.2.2.2⟩
    cases l with
    | true =>
      obtain⟨aA,rv,p,hz⟩:=I.list (show fv X.K H a xs from hq);have hl:=rv.length;exact rR h1 (uo hh (show s.heap.IsListIter it a i from h2) p.isList (by simp;omega)) λh' eb=>eY h' eb
    | false =>
      obtain⟨aA,rv,p,hz⟩:=I.tuple (show fS X.K H a xs from hq);have hl:=rv.length;exact rR h1 (yt hh (show s.heap.IsTupleIter it a i from h2) (show s.heap.IsTuple a aA.toArray from p) (by simp;omega)) λh' eb=>eY h' eb
  self:=λA i s Q E st h=>by
    obtain⟨⟨lC,h1⟩,_⟩:=st;exact wpAny_pyIter_enum h1 h
theorem mh (t : Addr) (items : Array Value) :
    Meets (Builtin.«enumerate.__new__» ⟨[.type "enumerate",.ref t],[]⟩) (λ_ R s=>s.heap.IsTuple t items /\
      R (.ok (.ret (.ref (s.heap.push {cls:=.type "tuple_iterator",data:=.fields #[.ref t,.int 0 0]}).objs.size)))
        {s with heap:=(s.heap.push {cls:=.type "tuple_iterator",data:=.fields #[.ref t,.int 0 0]}).push {cls:=.type "enumerate",data:=.fields #[.none,.bool false,.ref s.heap.objs.size,rawInt 0,.none,.none]}}) :=
  .of_wp λprog w A R s h=>by
    obtain⟨hp,g,d,tk,os⟩:=s;obtain⟨hT,h⟩:=h;have WD:=sub_enumerate;have hT:Heap.IsTuple (Shared.heap ⟨hp,g,d,tk,os⟩) t items:=hT
    wp_walk
    refine wpAny_stack_any λst=>aZ ?_;split
    · rename_i c _ _ _ _ _
      cases (c==Value.type "enumerate")<;>(wp_walk using C0 hT;exact⟨_,rfl,h⟩)
    · wp_walk using C0 hT
      exact⟨_,rfl,h⟩
section
variable {prog:Program} {w:World} {A:Around} {E:Value->Shared->Prop} {s:Shared}
theorem yx{l:Bool}{a:Addr}{items:Array Value}{Q:Value->Shared->Prop}(hs:if l=true then s.heap.IsList a items else s.heap.IsTuple a items)(h:∀h',IsEnum h' (s.heap.objs.size+1) s.heap.objs.size 0 .none->pN l h' s.heap.objs.size a 0->(∀b o,s.heap.get? b=some o->h'.get? b=some o)->Q (.ref (s.heap.objs.size+1)) {s with heap:=h'}):wpAny (model prog w) A (call (.type "enumerate") [.ref a]) Q E s:=by
 cases l with
 | true=>exact call_enumerate_list (show s.heap.IsList a items from hs) λh' h1 h2 _ h4=>h h' h1 h2 h4
 | false =>
  have hs:s.heap.IsTuple a items:=hs;refine callType_new F.called_enumerate (by decide) (F.typeCall_enumerate_1 _) (F.newCall_enumerate_1 _) (λobj=>F.args_object_init_2 obj _) F.entry_enumerate_new (mh a items) ⟨hs,?_⟩;have hz:(s.heap.push {cls:=.type "tuple_iterator",data:=.fields #[.ref a,.int 0 0]}).objs.size=s.heap.objs.size+1:=m_ ..;show _/\_;have he:=fm (s.heap.push {cls:=.type "tuple_iterator",data:=.fields #[.ref a,.int 0 0]}) (o:={cls:=.type "enumerate",data:=.fields #[.none,.bool false,.ref s.heap.objs.size,rawInt 0,.none,.none]}) rfl;rw[hz]at he⊢;exact⟨⟨_,he,rfl⟩,h _ he ⟨_,cA _ (fm _ rfl),rfl,rfl⟩ λb o x=>cA _ (cA _ x)⟩
end
section
variable {X:Cx}
def NG(K:PySem.W.Frag)(ta:TA):TI:=λσ H R=>ta σ H λvs H1=>∃(l:Bool) (a:Addr),vs=[.ref a]/\(∃xs,Lj K H1 l a xs)/\R (Qg K l a) H1
theorem D5{a:Expr}{ta:TA}{p pos tp:Pos}{D4:List Expr}{k:Nat} (hg:Gl X "enumerate") (hm:X.mg "enumerate" = none) (ha:PA X [a] ta) (hs:starEach [a] X.env=[(false,eval a X.env)]):PI X (.Tuple D4 k tp) (.Call (.Name "enumerate" p) [a] [] pos) (NG X.K ta):=by
 intro aa s σ H R I h;refine Call_ (lS I hg hm boot_enumerate (Hb (bV (ha pos aa s σ H _ I h) ?_) hs rfl));rintro us s1 ⟨vs,H1,I1,r1,q1⟩;obtain⟨l,b,rfl,⟨xs,hq⟩,q⟩:=q1;obtain⟨u,rfl,ru⟩:=vals1 r1;cases ru
 have hit:∃aA:Array Value,if l=true then s1.heap.IsList b aA else s1.heap.IsTuple b aA:=by
  cases l with
  | true=>obtain⟨aA,_,p,_⟩:=I1.list (show fv X.K H1 b xs from hq);exact⟨aA.toArray,p.isList⟩
  | false=>obtain⟨aA,_,p,_⟩:=I1.tuple (show fS X.K H1 b xs from hq);exact⟨aA.toArray,p⟩
 obtain⟨aA,hit⟩:=hit;refine yx hit λh' e1 e2 e3=>?_;refine wpAny_pyIter_enum (s:={s1 with heap:=h'}) e1 ?_;have I2:Inv X aa σ H1 {s1 with heap:=h'}:=I1.kept (t':=s1.toks) e3;refine⟨s1.heap.objs.size+1,[s1.heap.objs.size+1,s1.heap.objs.size],_,_,H1,rfl,I2,yw l b _ _ (Nat.succ_ne_self _),⟨⟨_,e1⟩,e2⟩,λc hc=>?_,q⟩;have y8:c=s1.heap.objs.size+1\/c=s1.heap.objs.size:=by simpa using hc
 rcases y8 with z | z
 ·subst z;exact I1.x_ (xX _) (I1.bc.fresh (xX _))
 ·subst z;exact I1.x_ (ar _) (I1.bc.fresh (ar _))
end
end L2
end
section
namespace L2
open PySem PySem.Spec PyProof.Rows
end L2
end
section
namespace L2
open PySem PySem.Spec PyProof.Rows
end L2
end
section
namespace L2
open PySem PySem.Spec PyProof.Rows
open AutoSeq1 (wpAny_loadPart')
end L2
end
section
namespace L2
open PySem PySem.Spec PyProof.Rows
end L2
end
section
namespace L2
open PySem PySem.Spec PyProof.Rows
section
variable {prog:Program} {w:World} {A:Around} {R:Result->Shared->Prop} {I S:Addr} {fp wr:List Addr} {n:Nat} {P:Nat->Value->Prop} {St:Nat->Heap->Prop} {bt:Nat->Nat->Bool} {kw:List (Str×Value)}
noncomputable def NH(xs:Array Value)(c:Nat):Obj:={cls:=.type "list",dict:=none,data:=.seq xs c,slots:=#[]}
theorem kf:(toString "min" ++ toString ".loop" : String) = "min.loop" := by decide
theorem yy(W:Walks prog w A.in1 I fp wr n P St)(cm:CmpOf prog w A.in1 .Lt P bt)(nf:S∉fp):∀(k j:Nat)(s:Shared)(v0:Value)(c:Nat),j+1+k=n->St (j+1) s.heap->P (argBest bt j) v0->s.heap.get? S=some (NH #[v0,v0] c)->(∀v h t,P (argBest bt (n-1)) v->(∀b o,b∉wr->b≠S->s.heap.get? b=some o->h.get? b=some o)->R (.ok (.ret v)) {s with heap:=h,toks:=t})->codeAny (model prog w) A (.builtin "min.loop" ⟨[.ref I,.none,.ref S],kw⟩) R s:=by
 have nw:S∉wr:=λz=>nf (W.sub _ z);intro k
 induction k with
 | zero =>
  intro j s v0 c e st p0 Gi eY;refine Df F.entry_min_loop ?_;rw[Hk xI _];refine aq (zx (items:=#[v0,v0]) Gi rfl ?_);refine aq (zz (W.done s _ _ (e▸st) λh1 t1 keep=>?_));refine aq (wpAny_updateSeq (keep S _ nw Gi) rfl (aq (wpAny_letGo (aZ (eY v0 _ t1 (by rw[<- e];exact p0) λb o nb ns g=>?_)))));exact(jX _ _ (dq ns)).trans (keep b o nb g)
 | succ k ih =>
  intro j s v0 c e st p0 Gi eY;refine Df F.entry_min_loop ?_;rw[Hk xI _];refine aq (zx (items:=#[v0,v0]) Gi rfl ?_);refine aq (zz (W.item (j+1) s _ _ ∅ st λv h1 t1 pv Li keep=>?_));have yz:=keep S _ nw Gi;refine aq (aZ ?_);refine aq (zz (nh (aq (cm (j+1) (argBest bt j) v v0 _ _ _ pv p0 (aq (nh (oU (aq (wpAny_letGo (aZ ?_))))))))))
  cases hb:bt (j+1) (argBest bt j)with
  | true =>
   simp only[dE];refine aq (wpAny_updateSeq yz rfl (aq (wpAny_letGo ?_)));rw[kf];refine aZ ⟨plainId_quiet xI _,ih (j+1) _ v _ ∅ (W.frame _ _ _ Li λb hb o g=>?_) (by simp only[argBest,hb,dE];exact pv) (tX _ yz rfl) λu h2 t2 pu rT=>?_⟩
   ·exact(jX _ _ (λz:S=b=>nf (by rw[z];exact hb))).trans g
   ·exact eY u h2 t2 pu λb o nb ns g=>rT b o nb ns ((jX _ _ (dq ns)).trans (keep b o nb g))
  | false =>
   simp only[xD,ni];refine aq (wpAny_letGo ?_);rw[kf];refine aZ ⟨plainId_quiet xI _,ih (j+1) _ v0 c ∅ Li (by simp only[argBest,hb,xD,ni];exact p0) yz λu h2 t2 pu rT=>?_⟩;exact eY u h2 t2 pu λb o nb ns g=>rT b o nb ns (keep b o nb g)
theorem pO{d:Value}{c:Nat}{s:Shared}(W:Walks prog w A.in1 I fp wr n P St)(cm:CmpOf prog w A.in1 .Lt P bt)(nf:S∉fp)(st:St 0 s.heap)(Gi:s.heap.get? S=some (NH #[] c))(eY:∀v h t,(n=0/\v=d\/0<n/\P (argBest bt (n-1)) v)->(∀b o,b∉wr->b≠S->s.heap.get? b=some o->h.get? b=some o)->R (.ok (.ret v)) {s with heap:=h,toks:=t}):codeAny (model prog w) A (.builtin "min.loop" ⟨[.ref I,.none,.ref S],[("default",d)]⟩) R s:=by
 have nw:S∉wr:=λz=>nf (W.sub _ z);refine Df F.entry_min_loop ?_;rw[Hk xI _];refine aq (zx (items:=#[]) Gi rfl ?_);rcases C3 n with hn | hn
 ·subst hn;refine aq (zz (W.done s _ _ st λh1 t1 keep=>?_));exact aq (wpAny_rule (aZ (eY d h1 t1 (.inl ⟨rfl,rfl⟩) λb o nb _ g=>keep b o nb g)))
 ·refine aq (zz (W.item 0 s _ _ hn st λv h1 t1 pv Li keep=>?_));have yz:=keep S _ nw Gi;refine aq (aZ ?_);show wpAny _ A.in1 (updateSeq S (λ_=>#[v,v]) >>= _) _ _ _;refine aq ?_;refine wpAny_updateSeq yz rfl ?_;rw[kf];refine aZ ⟨plainId_quiet xI _,yy W cm nf (n-1) 0 _ v _ ∅ (W.frame _ _ _ Li λb hb o g=>?_) pv (tX _ yz rfl) λu h2 t2 pu rT=>?_⟩
  ·exact(jX _ _ (λz:S=b=>nf (by rw[z];exact hb))).trans g
  ·exact eY u h2 t2 (.inr ⟨hn,pu⟩) λb o nb ns g=>rT b o nb ns ((jX _ _ (dq ns)).trans (keep b o nb g))
end
end L2
end
section
namespace L2
open PySem PySem.Spec PyProof.Rows
end L2
end
section
namespace L2
open PySem PySem.Spec PyProof.Rows
section
variable {X:Cx}
theorem Ar:ik X (compareOp .Is) (λx y H Q=>∃b c,x=.bl b/\y=.bl c/\Q (.bl (b==c)) H):=by
 intro aa s σ H x y v u Q I rx ry h;obtain⟨b,c,rfl,rfl,q⟩:=h;cases rx;cases ry;refine wpAny_is_plain rfl (lW I q ?_);cases b<;>cases c<;>rfl
theorem vO:ik X (compareOp .IsNot) (λx y H Q=>∃b c,x=.bl b/\y=.bl c/\Q (.bl (!(b==c))) H):=by
 intro aa s σ H x y v u Q I rx ry h;obtain⟨b,c,rfl,rfl,q⟩:=h;cases rx;cases ry;refine wpAny_isNot_plain rfl (lW I q ?_);cases b<;>cases c<;>rfl
end
end L2
end
section
namespace L2
open PySem PySem.Spec PyProof.Rows
end L2
end
section
namespace L2
open PySem PySem.Spec PyProof.Rows
end L2
end
section
namespace L2
open PySem PySem.Spec PyProof.Rows
section
variable {X:Cx} {tg:Expr}
noncomputable def NI(i:Int):List Int->List Int
 | []=>[i]
 | j::js=>if i<=j then i::j::js else j::NI i js
def NJ:List Int->List Int
 | []=>[]
 | i::is=>NI i (NJ is)
end
end L2
end
section
namespace L2
open PySem PySem.Spec PyProof.Rows
end L2
end
section
namespace L2
open PySem PySem.Spec PyProof.Rows
end L2
end
section
namespace L2
open PySem PySem.Spec PyProof.Rows
end L2
end
section
namespace L2
open PySem PySem.Spec PyProof.Rows
end L2
end
section
namespace L2
open PySem PySem.Spec PyProof.Rows
end L2
end
section
namespace L2
open PySem PySem.Spec PyProof.Rows
open Builtin Builtin.ObjectAttr
structure eN (h:Heap) (C D:Addr) (mN mD:Str->Option Value):Prop where
 cls:∃nm q N bs sn sub ab col dd k0 k1 k2 k3 k5,h.get? C=some (excClassObj nm q C N bs (.ref D::VE) true sn sub ab col dd k0 k1 k2 k3 k5 "ValueError.__new__")/\h.Ns N mN
 par:∃c0 dd cd sl,h.get? D=some {cls:=c0,dict:=dd,data:=.cls cd,slots:=sl}/\h.Ns cd.ns mD
 noi:mD "__init__" = none
theorem eN.keeps{h h':Heap}{C D:Addr}{mN mD:Str->Option Value}(X:eN h C D mN mD)(k:∀b o,h.get? b=some o->h'.get? b=some o):eN h' C D mN mD:=by
 obtain⟨⟨nm,q,N,bs,sn,sub,ab,col,dd,k0,k1,k2,k3,k5,hC,hN⟩,⟨c0,de,cd,sl,hD,hM⟩,n⟩:=X;exact⟨⟨nm,q,N,bs,sn,sub,ab,col,dd,k0,k1,k2,k3,k5,k _ _ hC,hN.keeps k⟩,⟨c0,de,cd,sl,k _ _ hD,hM.keeps k⟩,n⟩
theorem eN.tail{h:Heap}{C D:Addr}{mN mD:Str->Option Value}(X:eN h C D mN mD):OwnTail h VE (.ref D::VE):=by
 obtain⟨_,⟨c0,de,cd,sl,hD,hM⟩,n⟩:=X;exact .own hD hM n .base
section
variable {M:Model} {prog:Program} {w:World} {A:Around} {E:Value->Shared->Prop} {h:Heap} {g:Array GenState} {d:Drawn} {t:Nat} {os:OsState} {C D:Addr} {mN mD mA:Str->Option Value}
theorem e_{name:Str}{y:Option Value}{Q:Option Value->Shared->Prop}(X:eN h C D mN mD) (hB:typeLookup (.type "ValueError") name=pure y) (hq:Q ((mN name).or ((mD name).or y)) ⟨h,g,d,t,os⟩):wpAny M A (typeLookup (.ref C) name) Q E ⟨h,g,d,t,os⟩:=by
 obtain⟨⟨nm,q,N,bs,sn,sub,ab,col,dd,k0,k1,k2,k3,k5,hC,hN⟩,⟨c0,de,cd,sl,hD,hM⟩,n⟩:=X;have hV:lookupAlong VE name=pure y:=by rw[typeLookup_eq,zj.mroIs]at hB;exact hB
 rw[typeLookup_eq];refine aq (wpAny_mroOf_exc hC ?_);rw[lookupAlong_cons];refine aq (wpAny_classOwn_exc hC hN ?_)
 cases e1:mN name with
 | some v=>rw[e1]at hq;exact aZ hq
 | none =>
  rw[e1]at hq;show wpAny M A (lookupAlong (.ref D::VE) name) Q E _;rw[lookupAlong_cons];refine aq (wpAny_classOwn_cls hD hM ?_)
  cases e2:mD name with
  | some v=>rw[e2]at hq;exact aZ hq
  | none=>rw[e2]at hq;show wpAny M A (lookupAlong VE name) Q E _;rw[hV];exact aZ hq
theorem oo{b:Value}{Q:Bool->Shared->Prop}(X:eN h C D mN mD)(hq:Q ((Value.ref C::.ref D::VE).contains b) ⟨h,g,d,t,os⟩):wpAny M A (isSubtype (.ref C) b) Q E ⟨h,g,d,t,os⟩:=by
 obtain⟨⟨nm,q,N,bs,sn,sub,ab,col,dd,k0,k1,k2,k3,k5,hC,hN⟩,_⟩:=X;exact wpAny_isSubtype_exc hC hq
theorem rV{vs:List Value}{fI:Addr}{oI:Obj}{Q:Fin->Shared->Prop}(X:eN h C D mN mD) (hi:mN "__init__" = some (.ref fI)) (hf:h.get? fI=some oI) (hc:oI.cls=.type "function") (hq:∀h' e,Heap.MadeExcOf h h' e (.ref C) vs->h.objs.size<=e->wpAny (model prog w) A (call (.ref fI) (.ref e::vs)) (λr s'=>r=.none/\Q (.done (.ret (.ref e))) s') E ⟨h',g,d,t,os⟩) (hl:vs.length<=sizeLine):wpAny (model prog w) A (Builtin.«type.__call__» ⟨.ref C::vs,[]⟩) Q E ⟨h,g,d,t,os⟩:=by
 have X0:=X;have T:=X.tail;obtain⟨⟨nm,q,N,bs,sn,sub,ab,col,dd,k0,k1,k2,k3,k5,hC,hN⟩,_,_⟩:=X
 repeat (first | with_reducible refine gf hC ?_ | with_reducible refine wpAny_madeBy_exc hC ?_ | wp_step)
 refine codeAny_call_builtin_code (Code.quiet_builtin _ zj.quiet) (wpAny_check_new_subT zj T hC ?_);refine codeAny_exc_new_subT zj T hC ?_ hl;show wpAny _ _ _ _ _ _;generalize ht:({cls:=.type "tuple",data:=.seq vs.toArray}:Obj)=ot;generalize hx:({cls:=.ref C,data:=.fields #[.ref h.objs.size,.none,.none,.none,.bool false,.none]}:Obj)=ox;have kp:∀b o,h.get? b=some o->((h.push ot).push ox).get? b=some o:=λb o z=>cA _ (cA _ z);have ge:((h.push ot).push ox).get? (h.objs.size+1)=some ox:=by subst ht hx;heap_get
 have gt:((h.push ot).push ox).get? h.objs.size=some ot:=cA _ (Heap.get?_push_at rfl (by subst ht;rfl));have X1:=X0.keeps kp;have cc:ox.cls=.ref C:=by subst hx;rfl
 have hm:Heap.MadeExcOf h ((h.push ot).push ox) (h.objs.size+1) (.ref C) vs:=⟨kp,Hj (xX _),h.objs.size,by rw[ge];subst hx;rfl,Hj (ar _),by rw[gt];subst ht;rfl⟩;have ct:(Value.ref C::.ref D::VE).contains (.ref C)=true:=by simp
 unfold isInstance
 repeat (first | (with_reducible refine gf ge ?_;rw[cc]) | (with_reducible refine oo X1 ?_;rw[ct]) | wp_step)
 show wpAny _ _ (typeLookup (.ref C) _) _ _ _;refine e_ X1 zj.init.lookup ?_;rw[hi];refine nh (aq ?_);unfold bindSpecial;refine aq (wpAny_typeOf (T := "function") ⟨_,kp _ _ hf,hc⟩ ?_);rw[aU (by decide)];refine aZ (aq (j4 (hq _ _ hm (xX _)) (λr s' hr=>?_) λ_ _ z=>z));obtain⟨rfl,hQ⟩:=hr
 wp_walk
 exact hQ
theorem As{vs:List Value}{fI:Addr}{oI:Obj}{Q:Value->Shared->Prop}(X:eN h C D mN mD) (hi:mN "__init__" = some (.ref fI)) (hf:h.get? fI=some oI) (hc:oI.cls=.type "function") (hq:∀h' e,Heap.MadeExcOf h h' e (.ref C) vs->h.objs.size<=e->wpAny (model prog w) (A.under (.builtin "type.__call__" ⟨.ref C::vs,[]⟩)) (call (.ref fI) (.ref e::vs)) (λr s'=>r=.none/\Q (.ref e) s') E ⟨h',g,d,t,os⟩) (hl:vs.length<=sizeLine):wpAny (model prog w) A (call (.ref C) vs) Q E ⟨h,g,d,t,os⟩:=by
 have X0:=X;obtain⟨⟨nm,q,N,bs,sn,sub,ab,col,dd,k0,k1,k2,k3,k5,hC,hN⟩,_,_⟩:=X;have f1:=tc_lookup;have f2:=tc_bind (.ref C);have hT:(⟨h,g,d,t,os⟩:Shared).TypeIs (.ref C) "type" := ⟨_,hC,rfl⟩;refine wpAny_call (codeAny_of_tree ?_);show wpAny _ _ (callAny (.ref C) _) _ _ _
 repeat (any_goals (first | assumption | with_reducible refine gf hC ?_ | wp_step))
 refine⟨rfl,codeAny_call_builtin_at (Code.quiet_builtin _ ⋯) entry_typeCall (wpAny_check_type_call_sub hC (rV X0 hi hf hc (λh' e hm l=>hq h' e hm l) hl))⟩
end
end L2
end
section
namespace L2
open PySem PySem.Spec PyProof.Rows
open Builtin Builtin.ObjectAttr
section
variable {M:Model} {prog:Program} {w:World} {A:Around} {E:Value->Shared->Prop} {h:Heap} {g:Array GenState} {d:Drawn} {t:Nat} {os:OsState} {C D:Addr} {mN mD mA:Str->Option Value} {env:Env}
theorem rW{s:Shared}{x:Sem Value}{Q:Flow->Shared->Prop}(hh:A.handled=none)(hx:wpAny M A x (λv s1=>∃e oe vs,v=.ref e/\(∃mN mD,eN s1.heap C D mN mD)/\s1.heap.get? e=some oe/\oe.cls=.ref C/\oe.data=.fields vs/\vs[1]?=some .none/\E (.ref e) s1) E s):wpAny M A (raiseStmt env (some x) none) Q E s:=by
 have ct:(Value.ref C::.ref D::VE).contains (.type "BaseException")=true:=by simp
 unfold raiseStmt;refine aq (bV hx λv s1 h1=>?_);obtain⟨e,oe,vs,rfl,⟨mN,mD,X⟩,he,hc,hd,h1,hE⟩:=h1;have X0:=X;obtain⟨⟨nm,q,N,bs,sn,sub,ab,col,dd,k0,k1,k2,k3,k5,hC,hN⟩,_,_⟩:=X;obtain⟨hp,g,d,tk,os⟩:=s1;have nt:oe.data=.fields vs:=hd
 repeat (first | (with_reducible refine gf he ?_;rw[hc]) | with_reducible refine gf hC ?_ | (with_reducible refine oo X0 ?_;rw[ct]) | with_reducible refine gE he hd h1 ?_ | wp_step)
 exact wpAny_raiseNew_none hh hE
theorem D6 {s : Shared} {x : Str} {np dG pos : Pos} {args : List Expr} {Q : Flow -> Shared -> Prop} (hh : A.handled = none) (hp : (backTo dG (starEach args env)).any (·.1) = false)
    (hx:wpAny (model prog w) A (eval (.Name x np) env) (λf s1=>f=.ref C/\wpAny (model prog w) A (evalArgs (.ref C) true (backTo dG (starEach args env)) []) (λa s2=>a.kw=[]/\(∃mN mD,eN s2.heap C D mN mD) /\
      wpAny (model prog w) A (call (.ref C) a.pos) (λv s3=>∃e oe vs,v=.ref e/\(∃mN mD,eN s3.heap C D mN mD)/\s3.heap.get? e=some oe/\oe.cls=.ref C/\oe.data=.fields vs/\vs[1]?=some .none/\E (.ref e) s3) E s2) E s1) E s) :
    wpAny (model prog w) A (exec (.Raise (some (.Call (.Name x np) args [] dG)) none pos) env) Q E s:=by
  rw[arm_exec_Raise];refine aq (xP (rW (C:=C) (D:=D) hh ?_));refine aq (bV (wpAny_Call_ofName (bV hx λf s1 h1=>?_)) λv s3 h3=>aq (xP (aZ h3)));obtain⟨rfl,h1⟩:=h1;unfold callWith;refine aq (nh (bV h1 λa s2 h2=>aq (xP ?_)));obtain⟨ap,ak⟩:=a;obtain⟨hk,⟨mN,mD,X⟩,h2⟩:=h2;obtain rfl:ak=[]:=hk;obtain⟨⟨nm,q,N,bs,sn,sub,ab,col,dd,k0,k1,k2,k3,k5,hC,hN⟩,_,_⟩:=X;obtain⟨U3,g,d,tk,os⟩:=s2;simp only[hp];refine aq (wpAny_keeperOf_exc hC ?_);exact aq (bV h2 λv s3 h3=>aq (nh (wpAny_point (aZ h3))))
theorem nz{x:Addr}{name:Str}{v:Value}{tk:Tok}{o:Obj}{vs:Array Value}{Q:Fin->Shared->Prop}(X:eN h C D mN mD)(hn:mN name=none)(hm:mD name=none) (hB:typeLookup (.type "ValueError") name=pure none) (hx:h.get? x=some o) (hc:o.cls=.ref C) (hd:o.data=.fields vs) (hz:o.dict=none) (hq:∀h' uq dx,h.objs.size<=dx->h'.get? x=some {o with dict:=some dx}->(∀b u,b≠x->h.get? b=some u->h'.get? b=some u)->h'.Ns1 dx (λy=>if y=name then some v else none)->Q (.done (.ret .none)) ⟨h',g,d,uq,os⟩):wpAny (model prog w) A (Builtin.«object.__setattr__» ⟨[.ref x,.str name tk,v],[]⟩) Q E ⟨h,g,d,t,os⟩:=by
 have hp:refuseLoop (.ref x) "__setattr__" (.ref C::.ref D::VE)=pure ():=by rw[refuseLoop_ref,refuseLoop_ref];exact jZ.passes _
 have X0:=X;obtain⟨⟨nm,q,N,bs,sn,sub,ab,col,dd,k0,k1,k2,k3,k5,hC,hN⟩,_,_⟩:=X;unfold Builtin.«object.__setattr__»
 repeat (first | rw[refuse_eq] | rw[hp] | (with_reducible refine gf hx ?_;rw[hc]) | with_reducible refine wpAny_mroOf_exc hC ?_ | (with_reducible refine e_ X0 hB ?_;rw[hn,hm]) | wp_step)
 rw[hz,hd,aX (by simp[typeHasDict])];have U4:(h.push {cls:=.type "dict",data:=.dict #[]}).get? x=some o:=cA _ hx;have ne:x≠h.objs.size:=eW (bE hx);refine aq (wpAny_alloc' (aq (wpAny_update' U4 (aZ ?_))));generalize hu:((h.push {cls:=.type "dict",data:=.dict #[]}).update x λo=>{cls:=o.cls,dict:=some h.objs.size,data:=o.data,slots:=o.slots})=h1;have g1:h1.get? h.objs.size=some {cls:=.type "dict",data:=.dict #[]}:=by subst hu;exact(Heap.get?_update_ne _ _ _ _ ne.symm).trans (Heap.get?_push_at rfl rfl)
 have g2:h1.get? x=some {o with dict:=some h.objs.size}:=by
  subst hu;refine tX _ U4 ?_;obtain⟨a,b,c,e⟩:=o;obtain rfl:c=.fields vs:=hd;rfl
 have g3:∀b u,b≠x->h.get? b=some u->h1.get? b=some u:=λb u nb z=>by subst hu;exact(Heap.get?_update_ne _ _ _ _ nb).trans (cA _ z)
 have nd:h1.Ns h.objs.size (λ_=>none):=⟨_,#[],_,g1,rfl,λe he=>absurd he (by simp),λ_=>rfl⟩;show wpAny _ _ (storeInDict h.objs.size (.str name tk) name v) _ _ _;unfold storeInDict newKeyGuard;refine aq (aZ (aq (wpAny_nsSet1 (Heap.Ns1.of_empty nd) λh' n1 sm=>?_)));obtain⟨oD,es,ep,Su,Sv,Sw⟩:=n1.count (Within.cons name v Within.nil);refine aq (wpAny_lookBehind Su (by rw[Sv];exact pastItsLine_dict (bJ Sw (by rw[fE,q_,xW];omega))) ?_)
 wp_walk
 exact hq h' _ h.objs.size (ar _) ((sm.2 x ne).trans g2) (λb u nb z=>(sm.2 b (eW (bE z))).trans (g3 b u nb z)) n1
theorem mi{x:Addr}{o:Obj}{nv v:Value}{Q:Unit->Shared->Prop}(X:eN h C D mN mD)(hx:h.get? x=some o)(hc:o.cls=.ref C)(hq:Q () ⟨h,g,d,t,os⟩):wpAny M A (checkBuiltinCall "object.__setattr__" ⟨[.ref x,nv,v],[]⟩) Q E ⟨h,g,d,t,os⟩:=by
 have ct:(Value.ref C::.ref D::VE).contains (.type "object")=true:=by simp
 have ha:=jZ.args (.ref x) nv v;simp only[checkBuiltinCall,jZ.kind,jZ.split];refine aq ?_
 ·unfold isInstance
  repeat (first | (with_reducible refine gf hx ?_;rw[hc]) | (with_reducible refine oo X ?_;rw[ct]) | wp_step)
  exact hq
theorem D7{x:Addr}{name:Str}{v:Value}{o:Obj}{vs:Array Value}{Q:Unit->Shared->Prop}(X:eN h C D mN mD) (hs:mN "__setattr__" = none) (Sx:mD "__setattr__" = none) (hn:mN name=none) (hm:mD name=none) (hB:typeLookup (.type "ValueError") name=pure none) (hx:h.get? x=some o) (hc:o.cls=.ref C) (hd:o.data=.fields vs) (hz:o.dict=none) (hq:∀h' uq dx,h.objs.size<=dx->h'.get? x=some {o with dict:=some dx}->(∀b u,b≠x->h.get? b=some u->h'.get? b=some u)->h'.Ns1 dx (λy=>if y=name then some v else none)->Q () ⟨h',g,d,uq,os⟩):wpAny (model prog w) A (setAttr (.ref x) name v) Q E ⟨h,g,d,t,os⟩:=by
 have f3:=jZ.slot.bind (.ref x);unfold setAttr callSpecial? specialOf
 repeat (any_goals (first | assumption | (with_reducible refine gf hx ?_;rw[hc]) | (with_reducible refine e_ X jZ.slot.lookup ?_;rw[hs,Sx]) | wp_step))
 refine zk jZ.slot.plain jZ.entry (mi X hx hc (nz X hn hm hB hx hc hd hz λh' uq dx a b c e=>?_))
 repeat (any_goals (first | assumption | wp_step))
 exact hq h' uq dx a b c e
theorem mj{x:Addr}{o:Obj}{nv:Value}{Q:Unit->Shared->Prop}(X:eN h C D mN mD)(hx:h.get? x=some o)(hc:o.cls=.ref C)(hq:Q () ⟨h,g,d,t,os⟩):wpAny M A (checkBuiltinCall "BaseException.__getattribute__" ⟨[.ref x,nv],[]⟩) Q E ⟨h,g,d,t,os⟩:=by
 have hk:builtinKind "BaseException.__getattribute__" = some .slot:=⋯;have IJ:splitId "BaseException.__getattribute__" = some ("BaseException","__getattribute__"):=⋯;have ct:(Value.ref C::.ref D::VE).contains (.type "BaseException")=true:=by simp
 have ha:=F.args_bexc_ga (.ref x) nv;simp only[checkBuiltinCall,hk,IJ];refine aq ?_
 ·unfold isInstance
  repeat (first | (with_reducible refine gf hx ?_;rw[hc]) | (with_reducible refine oo X ?_;rw[ct]) | wp_step)
  exact hq
theorem pP{x dx:Addr}{name:Str}{v:Value}{tk:Tok}{o:Obj}{vs:Array Value}{Q:Fin->Shared->Prop}(X:eN h C D mN mD)(hn:mN name=none)(hm:mD name=none) (hB:typeLookup (.type "ValueError") name=pure none) (hx:h.get? x=some o) (hc:o.cls=.ref C) (hd:o.data=.fields vs) (hz:o.dict=some dx) (hA:h.Ns1 dx mA) (hv:mA name=some v) (hq:Q (.done (.ret v)) ⟨h,g,d,t,os⟩):wpAny (model prog w) A (Builtin.«object.__getattribute__» ⟨[.ref x,.str name tk],[]⟩) Q E ⟨h,g,d,t,os⟩:=by
 have X0:=X;obtain⟨⟨nm,q,N,bs,sn,sub,ab,col,dd,k0,k1,k2,k3,k5,hC,hN⟩,_,_⟩:=X;unfold Builtin.«object.__getattribute__»
 repeat (first | (with_reducible refine gf hx ?_;rw[hc]) | (with_reducible refine e_ X0 hB ?_;rw[hn,hm]) | wp_step)
 rw[hd];unfold instanceDict inDict
 repeat (first | (with_reducible refine gf hx ?_;rw[hc]) | with_reducible refine gf hC ?_ | rw[hz] | (with_reducible refine wpAny_nsGet hA.ns ?_;rw[hv]) | wp_step)
 exact hq
theorem IK{x dx:Addr}{name:Str}{v:Value}{o:Obj}{vs:Array Value}{e:Bool}{Q:Value->Shared->Prop}(X:eN h C D mN mD) (hg:mN "__getattribute__" = none) (Sy:mD "__getattribute__" = none) (ha:mN "__getattr__" = none) (Sz:mD "__getattr__" = none) (hn:mN name=none) (hm:mD name=none) (hB:typeLookup (.type "ValueError") name=pure none) (hx:h.get? x=some o) (hc:o.cls=.ref C) (hd:o.data=.fields vs) (hz:o.dict=some dx) (hA:h.Ns1 dx mA) (hv:mA name=some v) (hh:handedOut v=pure v) (hq:Q v ⟨h,g,d,t+1,os⟩):wpAny (model prog w) A (getAttr (.ref x) name e) Q E ⟨h,g,d,t,os⟩:=by
 have f3:=qV.ga.bind (.ref x);have q0:(e&&onTheHeap (Value.builtin "BaseException.__getattribute__"))=false:=by cases e<;>rfl
 have q2:(Value.builtin "BaseException.__getattribute__" == Value.builtin "object.__getattribute__")=false:=⋯;have q1:(onTheHeap (Value.ref C)&&Value.builtin "BaseException.__getattribute__" == Value.builtin "object.__getattribute__")=false:=by rw[q2];rfl
 unfold getAttr getAttrBy
 repeat (any_goals (first | assumption | (with_reducible refine gf hx ?_;rw[hc]) | (with_reducible refine e_ X qV.ga.lookup ?_;rw[hg,Sy]) | (with_reducible refine e_ X qV.noGetattr ?_;rw[ha,Sz]) | wp_step))
 refine zk qV.ga.plain F.entry_bexc_ga (mj X hx hc (pP X hn hm hB hx hc hd hz hA hv ?_));show wpAny _ _ (handedOut v) _ _ _;rw[hh];exact aZ hq
end
end L2
end
section
namespace L2
open PySem PySem.Spec PyProof.Rows
open Builtin Builtin.ObjectAttr
section
variable {M:Model} {prog:Program} {w:World} {A:Around} {E:Value->Shared->Prop} {h:Heap} {g:Array GenState} {d:Drawn} {t:Nat} {os:OsState} {C D:Addr} {mN mD mA:Str->Option Value} {env:Env}
theorem ml{x dx:Addr}{name:Str}{v:Value}{tk:Tok}{o:Obj}{vs:Array Value}{ns:List Str}{Q:Fin->Shared->Prop}(X:eN h C D mN mD)(hn:mN name=none)(hm:mD name=none) (hB:typeLookup (.type "ValueError") name=pure none) (hx:h.get? x=some o) (hc:o.cls=.ref C) (hd:o.data=.fields vs) (hz:o.dict=some dx) (hA:h.Ns1 dx mA) (hw:Within mA ns) (hl:ns.length<=1000) (hq:∀h' uq,(∀b u,b≠dx->h.get? b=some u->h'.get? b=some u)->h'.Ns1 dx (λy=>if y=name then some v else mA y)->Q (.done (.ret .none)) ⟨h',g,d,uq,os⟩):wpAny (model prog w) A (Builtin.«object.__setattr__» ⟨[.ref x,.str name tk,v],[]⟩) Q E ⟨h,g,d,t,os⟩:=by
 have hp:refuseLoop (.ref x) "__setattr__" (.ref C::.ref D::VE)=pure ():=by rw[refuseLoop_ref,refuseLoop_ref];exact jZ.passes _
 have X0:=X;obtain⟨⟨nm,q,N,bs,sn,sub,ab,col,dd,k0,k1,k2,k3,k5,hC,hN⟩,_,_⟩:=X;unfold Builtin.«object.__setattr__»
 repeat (first | rw[refuse_eq] | rw[hp] | (with_reducible refine gf hx ?_;rw[hc]) | with_reducible refine wpAny_mroOf_exc hC ?_ | (with_reducible refine e_ X0 hB ?_;rw[hn,hm]) | wp_step)
 rw[hz];refine aZ ?_;show wpAny _ _ (storeInDict dx (.str name tk) name v) _ _ _;unfold storeInDict newKeyGuard;refine aq (aZ (aq (wpAny_nsSet1 hA λh' n1 sm=>?_)));obtain⟨oD,es,ep,Su,Sv,Sw⟩:=n1.count (Within.cons name v hw);refine aq (wpAny_lookBehind Su (by rw[Sv];exact pastItsLine_dict (bJ Sw (by rw[fE,xW];omega))) ?_)
 wp_walk
 exact hq h' _ (λb u nb z=>(sm.2 b nb).trans z) n1
theorem Au{x dx:Addr}{name:Str}{v:Value}{o:Obj}{vs:Array Value}{ns:List Str}{Q:Unit->Shared->Prop}(X:eN h C D mN mD) (hs:mN "__setattr__" = none) (Sx:mD "__setattr__" = none) (hn:mN name=none) (hm:mD name=none) (hB:typeLookup (.type "ValueError") name=pure none) (hx:h.get? x=some o) (hc:o.cls=.ref C) (hd:o.data=.fields vs) (hz:o.dict=some dx) (hA:h.Ns1 dx mA) (hw:Within mA ns) (hl:ns.length<=1000) (hq:∀h' uq,(∀b u,b≠dx->h.get? b=some u->h'.get? b=some u)->h'.Ns1 dx (λy=>if y=name then some v else mA y)->Q () ⟨h',g,d,uq,os⟩):wpAny (model prog w) A (setAttr (.ref x) name v) Q E ⟨h,g,d,t,os⟩:=by
 have f3:=jZ.slot.bind (.ref x);unfold setAttr callSpecial? specialOf
 repeat (any_goals (first | assumption | (with_reducible refine gf hx ?_;rw[hc]) | (with_reducible refine e_ X jZ.slot.lookup ?_;rw[hs,Sx]) | wp_step))
 refine zk jZ.slot.plain jZ.entry (mi X hx hc (ml X hn hm hB hx hc hd hz hA hw hl λh' uq a b=>?_))
 repeat (any_goals (first | assumption | wp_step))
 exact hq h' uq a b
end
end L2
end
section
namespace L2
open PySem PySem.Spec PyProof.Rows
open Builtin Builtin.ObjectAttr
section
variable {M:Model} {prog:Program} {w:World} {A:Around} {E:Value->Shared->Prop} {h:Heap} {g:Array GenState} {d:Drawn} {t:Nat} {os:OsState} {C D x:Addr} {mN mD mA:Str->Option Value} {o:Obj} {vs:Array Value}
theorem rX:typeLookup (.type "ValueError") "__class__" = pure (some (.builtin "object.__class__")):=by rw[typeLookup_type,builtinLookup_eq_fast];kernel_rfl
theorem rY{R:Result->Shared->Prop}(X:eN h C D mN mD)(hx:h.get? x=some o)(hc:o.cls=.ref C)(hq:R (.ok (.ret (.ref C))) ⟨h,g,d,t,os⟩):codeAny (model prog w) A (.call (.builtin "getset_descriptor.__get__") ⟨[.builtin "object.__class__",.ref x,.ref C],[]⟩) R ⟨h,g,d,t,os⟩:=by
 have hT:(⟨h,g,d,t,os⟩:Shared).TypeIs (.builtin "object.__class__") "getset_descriptor" := Hi;have ct:(Value.ref C::.ref D::VE).contains (.type (".".intercalate ("object.__class__".cutAt '.').dropLast))=true:=by rw[F.owner_object_class];simp
 refine zk F.slot_gs_get.plain F.entry_gs_get (F.slot_gs_get.check _ _ _ _ _ _ _ _ hT (F.args_gs_get _ _ _) ?_)
 repeat (any_goals (first | assumption | (with_reducible refine gf hx ?_;rw[hc]) | (with_reducible refine oo X ?_;rw[ct]) | wp_step))
 refine⟨Code.quiet_builtin _ ⋯,Df F.entry_object_class ?_⟩
 repeat (any_goals (first | assumption | (with_reducible refine gf hx ?_;rw[hc]) | wp_step))
theorem nB{tk:Tok}{Q:Fin->Shared->Prop}(X:eN h C D mN mD) (hn:mN "__class__" = none) (hm:mD "__class__" = none) (hx:h.get? x=some o) (hc:o.cls=.ref C) (hq:Q (.done (.ret (.ref C))) ⟨h,g,d,t,os⟩):wpAny (model prog w) A (Builtin.«object.__getattribute__» ⟨[.ref x,.str "__class__" tk],[]⟩) Q E ⟨h,g,d,t,os⟩:=by
 have hT:(⟨h,g,d,t,os⟩:Shared).TypeIs (.builtin "object.__class__") "getset_descriptor" := Hi;have f5:=Hi;have f6:=F.slot_gs_get.lookup;have f7:=F.slot_gs_set.lookup
 repeat (any_goals (first | assumption | (with_reducible refine gf hx ?_;rw[hc]) | (with_reducible refine e_ X rX ?_;rw[hn,hm]) | wp_step))
 refine rY X hx hc ?_
 repeat (any_goals (first | assumption | wp_step))
theorem D8{Q:Option Value->Shared->Prop}(X:eN h C D mN mD) (hg:mN "__getattribute__" = none) (Sy:mD "__getattribute__" = none) (ha:mN "__getattr__" = none) (Sz:mD "__getattr__" = none) (hn:mN "__class__" = none) (hm:mD "__class__" = none) (hx:h.get? x=some o) (hc:o.cls=.ref C) (hq:Q (some (.ref C)) ⟨h,g,d,t+1,os⟩):wpAny (model prog w) A (getAttr? (.ref x) "__class__") Q E ⟨h,g,d,t,os⟩:=by
 have f3:=qV.ga.bind (.ref x);have q2:(Value.builtin "BaseException.__getattribute__" == Value.builtin "object.__getattribute__")=false:=⋯;have q1:(onTheHeap (Value.ref C)&&Value.builtin "BaseException.__getattribute__" == Value.builtin "object.__getattribute__")=false:=by rw[q2];rfl
 unfold getAttr? getAttrBy? getAttrBy
 repeat (any_goals (first | assumption | (with_reducible refine gf hx ?_;rw[hc]) | (with_reducible refine e_ X qV.ga.lookup ?_;rw[hg,Sy]) | (with_reducible refine e_ X qV.noGetattr ?_;rw[ha,Sz]) | wp_step))
 refine zk qV.ga.plain F.entry_bexc_ga (mj X hx hc (nB X hn hm hx hc ?_))
 repeat (any_goals (first | assumption | wp_step))
end
end L2
end
section
namespace L2
open PySem PySem.Spec PyProof.Rows
structure vP (h:Heap) (lo:Nat) (e:Addr) (C dx:Addr) (tr:Option Addr):Prop where
 le:lo<=e
 obj:∃oe vs,h.get? e=some oe/\oe.cls=.ref C/\oe.dict=some dx/\oe.data=.fields vs/\(match tr with
  | none=>vs[1]?=some .none
  | some T=>vs[1]?=some (.ref T)/\T≠e/\lo<=T/\∃oT ts,h.get? T=some oT/\oT.data=.fields ts/\ts[3]?=some .none)
structure rZ (fr:List Addr) (e:Addr) (tr:Option Addr) (h h':Heap):Prop where
 sz:h.objs.size<=h'.objs.size
 keep:∀b o,h.get? b=some o->b≠e->tr≠some b->b∉fr->h'.get? b=some o
 slots:∀b o,h.get? b=some o->b≠e->tr≠some b->∃sl,h'.get? b=some {o with slots:=sl}
section
variable {M:Model} {A:Around} {E:Value->Shared->Prop} {s:Shared}
theorem vQ{base:Heap}{env:Env}{outer:List Env}{L e C dx:Addr}{lo:Nat}{h0:Heap}{oe:Obj}{vs:Array Value}{tr:Option Addr}{D9:Value}{hn:Bool}{Q:Unit->Shared->Prop}(Ap:A.frames=some (env::outer))(hl:s.heap.FunFrames base (env::outer))(hf:env.frame=some L)(Lg:lo<=s.heap.objs.size)(le:lo<=e)(he:s.heap.get? e=some oe)(hc:oe.cls=.ref C)(hx:oe.dict=some dx)(hd:oe.data=.fields vs)(hz:1<vs.size)(k0:rZ ((env::outer).filterMap (·.frame)) e tr h0 s.heap)(hq:∀h' T,vP h' lo e C dx (some T)->h0.objs.size<=T->rZ ((env::outer).filterMap (·.frame)) e tr h0 h'->Q () {s with heap:=h'}):wpAny M A (do let a <- frameOf env;let pl <- entryPlaceOf L hn;let b <- EntryCells.newEntry D9 a .none (rawInt L) .none pl;setField (.ref e) 1 b) (λ_ s'=>wpAny M A (setFlight (.ref e) none) Q E s') E s:=by
 have ne:e∉(env::outer).filterMap (·.frame):=λhm=>by
  obtain⟨_,o,ho,nf⟩:=hl.mem hm;rw[he]at ho;cases ho;exact nf vs hd
 refine aq (wpAny_frameOf_fun Ap hl hf λh1 s1=>aq (wpAny_entryPlaceOf λpl hp=>?_));unfold EntryCells.newEntry newFields;refine aq (qX ?_ (hp.sizeOk5 _ _ _ _ _));generalize ho:({cls:=.type "traceback",dict:=none,data:=.fields ([D9,.ref L,.none,rawInt L,.none]++(if pl.isEmpty then List.replicate 6 Value.none else pl)).toArray}:Obj)=ot;have U5:h1.get? e=some oe:=(s1.2.1 e ne).trans he;have U6:=cA (h:=h1) ot U5;refine zy U6 hd hz ?_;have nT:h1.objs.size≠e:=zC (bE U5);have SA:=C2 hd (·.setIfInBounds 1 (Value.ref h1.objs.size));have U7:=tX (Obj.mapFields (·.setIfInBounds 1 (Value.ref h1.objs.size))) U6 (Hh SA);have gt:(h1.push ot).get? h1.objs.size=some ot:=fm h1 (by subst ho;rfl);have hT:=(jX (h1.push ot) (Obj.mapFields (·.setIfInBounds 1 (Value.ref h1.objs.size))) (dq nT)).trans gt;have U8:ot.data=.fields ([D9,.ref L,.none,rawInt L,.none]++(if pl.isEmpty then List.replicate 6 Value.none else pl)).toArray:=by subst ho;rfl
 unfold setFlight;refine aq (gE U7 SA (x:=.ref h1.objs.size) (by simp[hz]) ?_);rw[aU (show(Value.ref h1.objs.size != Value.none)=true from by simp)];have z3:3<([D9,.ref L,.none,rawInt L,.none]++(if pl.isEmpty then List.replicate 6 Value.none else pl)).toArray.size:=by simp only[cF,bY,fE,q_];omega
 refine zy hT U8 z3 ?_;have U9:=C2 U8 (·.setIfInBounds 3 ((none:Option Addr).elim Value.none λf=>rawInt f));have WE:=tX (Obj.mapFields (·.setIfInBounds 3 ((none:Option Addr).elim Value.none λf=>rawInt f))) hT (Hh U9);have WG:=(jX ((h1.push ot).update e (Obj.mapFields (·.setIfInBounds 1 (Value.ref h1.objs.size)))) (Obj.mapFields (·.setIfInBounds 3 ((none:Option Addr).elim Value.none λf=>rawInt f))) nT).trans U7
 have hk:∀b o,h1.get? b=some o->b≠e->((((h1.push ot).update e (Obj.mapFields (·.setIfInBounds 1 (Value.ref h1.objs.size)))).update h1.objs.size (Obj.mapFields (·.setIfInBounds 3 ((none:Option Addr).elim Value.none λf=>rawInt f))))).get? b=some o:=λb o hb nb=>by
  rw[jX _ _ (zC (bE hb)),jX _ _ (dq nb)];exact cA _ hb
 have WH:h1.objs.size=s.heap.objs.size:=s1.1;refine hq _ h1.objs.size ⟨le,_,_,WG,(Obj.cls_mapFields _ _).trans hc,?_,SA,by simp[hz],nT,∅,_,_,WE,U9,?_⟩ (by have:=k0.sz;omega) ⟨?_,λb o hb nb nt nf=>?_,λb o hb nb nt=>?_⟩
 ·obtain⟨a1,a2,a3,a4⟩:=oe;obtain rfl:a3=.fields vs:=hd;exact hx
 ·rw[Array.getElem?_setIfInBounds,aU rfl,aU z3];rfl
 ·refine bJ k0.sz ?_;rw[<- WH,Hg,Hg,m_];exact xX _
 ·exact hk b o ((s1.2.1 b nf).trans (k0.keep b o hb nb nt nf)) nb
 ·obtain⟨sl,h5⟩:=k0.slots b o hb nb nt;obtain⟨Rj,h6⟩:=s1.2.2 b _ h5;exact⟨Rj,hk b _ h6 nb⟩
theorem rZ.refl{fr:List Addr}{e:Addr}{tr:Option Addr}{h:Heap}:rZ fr e tr h h:=⟨ar _,λ_ _ z _ _ _=>z,λb o z _ _=>⟨o.slots,z⟩⟩
theorem IL{base:Heap}{env:Env}{outer:List Env}{L e C dx:Addr}{lo:Nat}{tr:Option Addr}{Q:Unit->Shared->Prop}(Ap:A.frames=some (env::outer))(hl:s.heap.FunFrames base (env::outer))(hf:env.frame=some L)(Lg:lo<=s.heap.objs.size)(hx:vP s.heap lo e C dx tr)(hq:∀h' T,vP h' lo e C dx (some T)->s.heap.objs.size<=T->rZ ((env::outer).filterMap (·.frame)) e tr s.heap h'->Q () {s with heap:=h'}):wpAny M A (noteFrame (.ref e) env) (λ_ s'=>wpAny M A (setFlight (.ref e) none) Q E s') E s:=by
 obtain⟨le,oe,vs,he,hc,hx,hd,ht⟩:=hx;unfold noteFrame;simp only[hf]
 cases tr with
 | none =>
  have h1:vs[1]?=some .none:=ht;refine aq (gE he hd h1 ?_);rw[aX (by decide)];exact vQ Ap hl hf Lg le he hc hx hd (zi.mp h1).1 .refl hq
 | some T =>
  obtain⟨h1,nT,lT,oT,ts,gT,dT,h3⟩:=ht;refine aq (gE he hd h1 ?_);rw[aU (show(Value.ref T != Value.none)=true from by simp)];refine aq (gE gT dT h3 ?_);rw[aX (show ¬((Value.none==rawInt L)=true) from by simp[rawInt])];refine aq (zy gT dT (zi.mp h3).1 ?_);have ot:∀b,b≠T->(s.heap.update T (Obj.mapFields (·.setIfInBounds 3 Value.none))).get? b=s.heap.get? b:=λb hb=>jX _ _ (dq hb);have z:(s.heap.update T (Obj.mapFields (·.setIfInBounds 3 Value.none))).objs.size=s.heap.objs.size:=Hg ..
  refine vQ (h0:=s.heap) Ap (hl.of_keeps λb o hb nf=>⟨o,(ot b λq=>by subst q;rw[gT]at hb;cases hb;exact nf ts dT).trans hb,rfl⟩) hf (by show lo<=(s.heap.update T _).objs.size;rw[z];exact Lg) le ((ot e (dq nT)).trans he) hc hx hd (zi.mp h1).1
   ⟨xV z.symm,λb o hb nb nt nf=>(ot b λq=>nt (by rw[q])).trans hb,λb o hb nb nt=>⟨o.slots,(ot b λq=>nt (by rw[q])).trans hb⟩⟩ hq
end
end L2
end
section
namespace L2
open PySem PySem.Spec PyProof.Rows
noncomputable def XO(a C dx:Addr):HO:=.ext λh=>∃oe vs,h.get? a=some oe/\oe.cls=.ref C/\oe.dict=some dx/\oe.data=.fields vs
theorem XO.ok{P:Program}{w:World}{H:Hp}{h:Heap}{a C dx:Addr}{oe:Obj}{vs:Array Value}(e:h.get? a=some oe)(c:oe.cls=.ref C)(d:oe.dict=some dx)(f:oe.data=.fields vs):ba P w H h a (XO a C dx) :=
 ⟨⟨oe,vs,e,c,d,f⟩,⟨oe,e⟩,λh1 h2 ⟨oe,vs,e,r⟩ k=>⟨oe,vs,k _ e,r⟩⟩
theorem vP.mono{h:Heap}{lo U_:Nat}{e C dx:Addr}{tr:Option Addr}(x:vP h lo e C dx tr)(l:U_<=lo):vP h U_ e C dx tr:=by
 obtain⟨le,oe,vs,a,b,c,d,r⟩:=x;refine⟨bJ l le,oe,vs,a,b,c,d,?_⟩
 cases tr with
 | none=>exact r
 | some T=>exact⟨r.1,r.2.1,bJ l r.2.2.1,r.2.2.2⟩
theorem vP.ok{P:Program}{w:World}{H:Hp}{h:Heap}{lo:Nat}{e C dx:Addr}{tr:Option Addr}(x:vP h lo e C dx tr):ba P w H h e (XO e C dx):=by
 obtain⟨le,oe,vs,a,b,c,d,r⟩:=x;exact XO.ok a b c d
noncomputable def lr(X:Cx)(aa:List (Addr×Obj))(H:Hp)(tr:Option Addr):Prop:=∀T,tr=some T->H T=none/\X.dr.heap.objs.size<=T/\T≠X.env.locals/\(∀x c,X.env.cells.lookup x=some c->c≠T)/\∀p∈X.pn++aa,p.1≠T
section
variable {X:Cx} {aa:List (Addr×Obj)} {σ:St} {H:Hp} {s:Shared}
theorem lr.new(I:Inv X aa σ H s){H':Hp}{T:Addr}(h:s.heap.objs.size<=T)(n:H' T=none):lr X aa H' (some T):=λT' e=>by
 cases e;refine⟨n,bJ I.sz h,λz=>?_,λx c e z=>?_,λp hp z=>?_⟩
 ·subst z;exact absurd I.lt (xY.mpr h)
 ·obtain⟨v,o,ho,_⟩:=I.cell x c e;subst z;exact absurd (bE ho) (xY.mpr h)
 ·have:=bE (I.pin p hp).1;rw[z]at this;exact absurd this (xY.mpr h)
theorem lr.none:lr X aa H none:=λ_ e=>nomatch e
theorem r_{M:Model}{E:Value->Shared->Prop}{lo:Nat}{e C dx:Addr}{tr:Option Addr}{Q:Unit->Shared->Prop}(I:Inv X aa σ H s)(vt:X.stack=X.env::X.outer/\X.env.frame=some X.env.locals)(hx:vP s.heap lo e C dx tr)(he:H e=some (XO e C dx))(hT:lr X aa H tr)(Lg:lo<=s.heap.objs.size)(hq:∀s' T,Inv X aa σ H s'->vP s'.heap lo e C dx (some T)->s.heap.objs.size<=T->H T=none->Q () s'):wpAny M X.A (noteFrame (.ref e) X.env) (λ_ s'=>wpAny M X.A (setFlight (.ref e) none) Q E s') E s:=by
 have Ap:=I.ok.frames;rw[vt.1]at Ap;have fO:=I.stack;rw[vt.1]at fO;refine IL Ap fO vt.2 Lg hx λh' T x l k=>?_;have hn:H T=none:=I.bc.fresh l
 have NK:∀b,b∈(X.env::X.outer).filterMap (·.frame)->H b=none/\b∈X.env.locals::X.fs:=λb hb=>by
  have CM:b∈x5 X.stack:=by rw[vt.1];exact hb
  exact⟨I.pf b CM,I.pe b CM⟩
 have WI:∀b u,H b=some u->tr≠some b:=λb u q z=>by rw[(hT b z).1]at q;cases q
 have kt:∀b u o,H b=some u->b≠e->s.heap.get? b=some o->h'.get? b=some o:=λb u o q nb g=>k.keep b o g nb (WI b u q) λz=>by rw[(NK b z).1]at q;cases q
 refine hq _ T ?_ x l hn;refine I.step (g':=s.gens) (d':=s.drawn) (t':=s.toks) (ch:=tr.toList) (λb hb=>?_) (λb o nl nf nc g n=>?_) (λb o nl hf nc g n=>?_) (λb o _ _ n=>n) (λb o nc g=>?_) (λ_ _ q=>q) (λ_ _ _ q=>q) (λb ps q=>⟨#[],by rw[q];simp⟩) (λm hm=>?_) (λb u q=>?_) I.bare
 ·cases tr with
  | none=>cases hb
  | some T0 =>
   have:b=T0:=by simpa using hb
   subst this;obtain⟨a1,a2,a3,a4,a5⟩:=hT b rfl;exact⟨.inr a2,a3,a4,a5⟩
 ·refine k.keep b o g (λz=>by subst z;rw[he]at n;cases n) (λz=>nc (by rw[z];simp)) λz=>?_;rcases cq.mp (NK b z).2 with y | y
  ·exact nl y
  ·exact nf y
 ·exact k.slots b o g (λz=>by subst z;rw[he]at n;cases n) λz=>nc (by rw[z];simp)
 ·by_cases hb:b=e
  ·subst hb;obtain⟨_,oe,_,g1,_⟩:=x;exact⟨oe,g1⟩
  ·obtain⟨sl,y⟩:=k.slots b o g hb λz=>nc (by rw[z];simp);exact⟨_,y⟩
 ·obtain⟨o,es,ep,ho,r⟩:=hm;obtain⟨sl,y⟩:=k.slots _ o ho (λz=>by have f:=I.free;rw[z,he]at f;cases f) λz=>(hT _ z).2.2.1 rfl;exact⟨_,es,ep,y,r⟩
 ·by_cases hb:b=e
  ·subst hb;rw[he]at q;cases q;exact x.ok
  ·refine(I.bc b u q).nj (λc o hc g=>?_) (λ_ z=>z) λ_ _ z=>z;rcases hc with z | z
   ·subst z;exact kt _ u o q hb g
   ·refine kt c _ o z (λy=>?_) g;subst y;rw[he]at z;cases z
def yA(P:Program)(w:World):vF:=λouter H s E e s'=>∃ea C dx T H',e=.ref ea/\s'.os=s.os/\AllBare s'.gens/\Un (x5 outer) [] H H' s.heap s'.heap/\iF P w H' s'.heap/\vP s'.heap s.heap.objs.size ea C dx (some T)/\H' ea=some (XO ea C dx)/\H' T=none/\E (.ref C) (some dx) H'
structure oq (X:Cx) (E:XK):Prop where
 xe:∀{aa:List (Addr×Obj)}{σ:St}{H:Hp}{s:Shared}{e C dx:Addr}{tr:Option Addr}{lo:Nat},Inv X aa σ H s->vP s.heap lo e C dx tr->H e=some (XO e C dx)->lr X aa H tr->X.dr.heap.objs.size<=lo->lo<=s.heap.objs.size->E (.ref C) (some dx) H->X.xe (.ref e) s
 own:PassesOwn (model X.prog X.w) X.A X.env X.xe
theorem oq.pass{E:XK}(p:oq X E):iX (yA X.prog X.w) X E:=by
 rintro aa σ H s e s' I ⟨ea,C,dx,T,H',rfl,os,bare,un,bc,x,he,hT,hE⟩;have I':Inv X aa σ H' s':=I.zG os un bc bare (λb z=>absurd z (by simp));have x0:=x;obtain⟨l1,oe,vs,g,c,d,f,h1,h2,lT,_⟩:=x;exact p.xe I' x0 he (lr.new I lT hT) I.sz (bJ l1 (oY (bE g))) hE
end
theorem pQ{P:Program}{w:World}{K:PySem.W.Frag}{mg:Str->Option Value}{base:Heap}{N:List Str}{qual:Str}{scope:Scope}{f:Addr}{cd:Value}{A:Around}{outer:List Env}{dr:Shared}{lO:Hp}{E:XK}:oq (rE (yA P w) P w K mg base N qual scope f cd A outer dr lO E) E where
 own:=PassesOwn.leaving
 xe:=by
  intro aa σ H s e C dx tr lo I x he hT l1 l2 hE;show wpAny _ _ (leaving _ _) _ _ _;unfold leaving;refine aq (r_ I ⟨rfl,rfl⟩ x he hT l2 λs' T I' x' lT nT=>?_);exact⟨e,C,dx,T,H,rfl,I'.os,I'.bare,I'.base,I'.bc,x'.mono l1,he,nT,hE⟩
end L2
end
section
namespace L2
open PySem PySem.Spec PyProof.Rows
noncomputable def eC:List Str:=["__setattr__","__getattribute__","__getattr__","__class__"]
structure pR (K:PySem.W.Frag) (C D fI:Addr) (fs:List Str):Prop where
 cls:∃nm q N bs sn sub ab col dd k0 k1 k2 k3 k5,K.lookup C=some (excClassObj nm q C N bs (.ref D::VE) true sn sub ab col dd k0 k1 k2 k3 k5 "ValueError.__new__")/\PySem.W.nsOkIn K N=true/\PySem.W.nsIn K N "__init__" = some (some (.ref fI))/\∀n∈fs++eC,PySem.W.nsIn K N n=some none
 par:∃c0 dd cd sl,K.lookup D=some {cls:=c0,dict:=dd,data:=.cls cd,slots:=sl}/\PySem.W.nsOkIn K cd.ns=true/\∀n∈("__init__" : Str)::(fs++eC),PySem.W.nsIn K cd.ns n=some none
 ve:∀f∈fs,typeLookup (.type "ValueError") f=pure none
theorem ur{K:PySem.W.Frag}{h:Heap}{N:Addr}{m:Str->Option Value}{n:Str}{v:Value}(X:K.In h)(G:h.Ns N m)(e:PySem.W.nsIn K N n=some (some v)):m n=some v:=by
 obtain⟨o,es,ep,ho,hd,_,hf⟩:=G;unfold PySem.W.nsIn at e;split at e
 ·rename_i q
  have z:=X _ _ q;rw[ho]at z;cases z;cases hd;split at e
  ·rename_i en he
   cases e;rw[<- hf];unfold nsFind findBy;rw[<- Array.find?_toList,he];rfl
  ·split at e<;>cases e
 ·cases e
theorem pR.at{K:PySem.W.Frag}{C D fI:Addr}{fs:List Str}(x:pR K C D fI fs){h:Heap}(X:K.In h):∃mN mD,eN h C D mN mD/\mN "__init__" = some (.ref fI)/\∀n∈fs++eC,mN n=none/\mD n=none:=by
 obtain⟨⟨nm,q,N,bs,sn,sub,ab,col,dd,k0,k1,k2,k3,k5,hC,o1,i1,n1⟩,⟨c0,de,cd,sl,hD,o2,n2⟩,_⟩:=x;have a:h.Ns N (h.nsMap N):=.of_isNs (PySem.W.isNs_of_in X o1);have b:h.Ns cd.ns (h.nsMap cd.ns):=.of_isNs (PySem.W.isNs_of_in X o2);exact⟨_,_,⟨⟨nm,q,N,bs,sn,sub,ab,col,dd,k0,k1,k2,k3,k5,X _ _ hC,a⟩,⟨c0,de,cd,sl,X _ _ hD,b⟩,Ht X b (n2 _ dD)⟩,ur X a i1,λn hn=>⟨Ht X a (n1 n hn),Ht X b (n2 n (dB _ hn))⟩⟩
noncomputable def X0(a C:Addr):HO:=.ext λh=>∃oe t,h.get? a=some oe/\oe.cls=.ref C/\oe.dict=none/\oe.data=.fields #[.ref t,.none,.none,.none,.bool false,.none]
noncomputable def X1(a C dx:Addr):HO:=.ext λh=>∃oe t,h.get? a=some oe/\oe.cls=.ref C/\oe.dict=some dx/\oe.data=.fields #[.ref t,.none,.none,.none,.bool false,.none]
section
variable {X:Cx} {o value:Expr} {f:Str} {pos yg:Pos} {ta tv:TE}
def WJ(K:PySem.W.Frag)(f:Str)(ta tv:TE):TS:=λZ σ H=>tv σ H λy H1=>ta σ H1 λx H2=>∃a C D fI fs,x=.ref a/\H2 a=some (X0 a C)/\pR K C D fI fs/\f∈fs/\∀dx,H2 dx=none->dx≠a->Z.nx σ (a_ (a_ H2 dx (.xd [(f,y)])) a (X1 a C dx))
theorem NL(ha:PE X o ta)(hv:PE X value tv)(hs:swapsWith value (some (.Attribute o f yg)) pos.line X.env=pure false):PS X (.Assign [.Attribute o f yg] value pos) (WJ X.K f ta tv):=by
 intro aa s σ H Z I h;refine plainObj_wpAny_Assign_Attribute (bV (hv aa s σ H _ I h) λu s1 ⟨y,H1,I1,ry,q⟩=>bV (ha aa s1 σ H1 _ I1 q) λov s2 ⟨x,H2,I2,rx,a,C,D,fI,fs,ex,ea,xi,mf,q2⟩=>?_) hs;subst ex;obtain rfl:ov=Value.ref a:=rx;obtain⟨⟨oe,t,e1,e2,e3,e4⟩,_,_⟩:=(show ba X.prog X.w H2 s2.heap a (X0 a C) from I2.bc a _ ea);obtain⟨mN,mD,xc,_,hn⟩:=xi.at I2.iU;have g1:=hn f (oS _ mf);have g2:=hn "__setattr__" (fP _ (by simp[eC]));obtain⟨h,g,d,tk,os⟩:=s2;refine D7 xc g2.1 g2.2 g1.1 g1.2 (xi.ve f mf) e1 e2 e4 e3 λh' uq dx l z k n1=>?_;have nx:H2 dx=none:=I2.bc.fresh l;have ne:dx≠a:=λy=>by subst y;exact absurd (bE e1) (xY.mpr l)
 have na:∀b,H2 b=none->b≠a:=λb q y=>by subst y;rw[ea]at q;cases q
 have nb:∀b u,H2 b=some u->b≠dx:=λb u q y=>by subst y;rw[nx]at q;cases q
 have u1:∀b,b≠a->b≠dx->a_ (a_ H2 dx (.xd [(f,y)])) a (X1 a C dx) b=H2 b:=λb p q=>by rw[ai p,ai q]
 have nl:∀b o,h.get? b=some o->b≠dx:=λb o q y=>by subst y;exact absurd (bE q) (xY.mpr l)
 have kk:∀b u,H2 b=some u->(∀c,u≠.ext c)->b≠a:=λb u q p y=>by subst y;rw[ea]at q;cases q;exact p _ rfl
 refine⟨σ,_,I2.un (t':=uq) ⟨λb o q n _ _=>k b o (na b n) q,λb o q n _ _=>⟨o.slots,k b o (na b n) q⟩,λb o q n _=>by rw[u1 b (na b n) (nl b o q)];exact n,λb o q _=>?_,λb xs q=>?_,λb o u q=>?_,λb ps q=>⟨#[],?_⟩⟩ λb u q=>?_,q2 dx nx ne⟩
 ·by_cases hb:b=a
  ·subst hb;exact⟨_,z⟩
  ·exact⟨o,k b o hb q⟩
 ·rw[u1 b (kk b _ q λc y=>by cases y) (nb b _ q)];exact q
 ·rw[u1 b (kk b _ q λc y=>by cases y) (nb b _ q)];exact q
 ·rw[u1 b (kk b _ q λc y=>by cases y) (nb b _ q),q];simp
 ·by_cases hb:b=a
  ·subst hb;rw[aB]at q;cases q;exact⟨⟨_,t,z,e2,rfl,e4⟩,⟨_,z⟩,λh1 h2 ⟨oe,t,e,r⟩ k=>⟨oe,t,k _ e,r⟩⟩
  ·rw[ai hb]at q;by_cases hd:b=dx
   ·subst hd;rw[aB]at q;cases q;refine⟨_,n1,λn=>?_⟩;by_cases hf:n=f
    ·subst hf;simp only[dm,xJ,dE];exact ry
    ·have:(n==f)=false:=by simpa using hf
     simp only[dm,this,hf,ni];exact True.intro
   ·rw[ai hd]at q;refine(I2.bc b u q).nj (λc o hc r=>k c o ?_ r) (λc r=>?_) λc xs r=>?_
    ·rcases hc with y | y
     ·rw[y];exact hb
     ·exact kk c _ y λ_ w=>by cases w
    ·rw[u1 c (kk c _ r λ_ w=>by cases w) (nb c _ r)];exact r
    ·rw[u1 c (kk c _ r λ_ w=>by cases w) (nb c _ r)];exact r
end
section
variable {X:Cx} {o value:Expr} {f:Str} {pos yg:Pos} {ta tv:TE}
def WK(K:PySem.W.Frag)(f:Str)(ta tv:TE):TS:=λZ σ H=>tv σ H λy H1=>ta σ H1 λx H2=>∃a C D fI fs dx gs,x=.ref a/\H2 a=some (X1 a C dx)/\pR K C D fI fs/\f∈fs/\H2 dx=some (.xd gs)/\gs.lookup f=none/\gs.length<=999/\Z.nx σ (a_ H2 dx (.xd (gs++[(f,y)])))
theorem kS{α:Type}{f n:Str}{y:α}:∀{gs:List (Str×α)},gs.lookup f=none->(gs++[(f,y)]).lookup n=if n=f then some y else gs.lookup n
 | [],_=>by
  by_cases h:n=f
  ·subst h;simp
  ·have:(n==f)=false:=by simpa using h
   simp[dm,this,h]
 | (g,z)::gs,e=>by
  rw[dm]at e;rw[List.cons_append,dm,dm];split at e
  ·cases e
  ·rename_i hf
   have hf:f≠g:=by simpa using hf
   split
   ·rename_i hg
    obtain rfl:n=g:=by simpa using hg
    rw[aX (dq hf)]
   ·exact kS e
theorem NM(ha:PE X o ta)(hv:PE X value tv)(hs:swapsWith value (some (.Attribute o f yg)) pos.line X.env=pure false):PS X (.Assign [.Attribute o f yg] value pos) (WK X.K f ta tv):=by
 intro aa s σ H Z I h;refine plainObj_wpAny_Assign_Attribute (bV (hv aa s σ H _ I h) λu s1 ⟨y,H1,I1,ry,q⟩=>bV (ha aa s1 σ H1 _ I1 q) λov s2 ⟨x,H2,I2,rx,a,C,D,fI,fs,dx,gs,ex,ea,xi,mf,ed,lf,ll,q2⟩=>?_) hs;subst ex;obtain rfl:ov=Value.ref a:=rx;obtain⟨⟨oe,t,e1,e2,e3,e4⟩,_,_⟩:=(show ba X.prog X.w H2 s2.heap a (X1 a C dx) from I2.bc a _ ea);obtain⟨mA,nA,rl⟩:=(show ba X.prog X.w H2 s2.heap dx (.xd gs) from I2.bc dx _ ed);obtain⟨mN,mD,xc,_,hn⟩:=xi.at I2.iU;have g1:=hn f (oS _ mf);have g2:=hn "__setattr__" (fP _ (by simp[eC]))
 have wi:Within mA (gs.map (·.1)):=λy hy=>by
  have r:=rl y
  cases hl:gs.lookup y with
  | none=>rw[hl]at r;cases hm:mA y with
   | none=>exact absurd hm hy
   | some v=>rw[hm]at r;exact r.elim
  | some v=>exact iS.mpr ⟨(y,v),jY hl,rfl⟩
 obtain⟨h,g,d,tk,os⟩:=s2;refine Au xc g2.1 g2.2 g1.1 g1.2 (xi.ve f mf) e1 e2 e4 e3 nA wi (by rw[cM];omega) λh' uq k n1=>?_;have na:∀b,H2 b=none->b≠dx:=λb q y=>by subst y;rw[ed]at q;cases q
 have kk:∀b u,H2 b=some u->(∀c,u≠.xd c)->b≠dx:=λb u q p y=>by subst y;rw[ed]at q;cases q;exact p _ rfl
 refine⟨σ,_,I2.un (t':=uq) ⟨λb o q n _ _=>k b o (na b n) q,λb o q n _ _=>⟨o.slots,k b o (na b n) q⟩,λb o q n _=>by rw[ai (na b n)];exact n,λb o q _=>?_,λb xs q=>?_,λb o u q=>?_,λb ps q=>⟨#[],?_⟩⟩ λb u q=>?_,q2⟩
 ·by_cases hb:b=dx
  ·subst hb;obtain⟨o',_,_,e,_⟩:=n1;exact⟨o',e⟩
  ·exact⟨o,k b o hb q⟩
 ·rw[ai (kk b _ q λc y=>by cases y)];exact q
 ·rw[ai (kk b _ q λc y=>by cases y)];exact q
 ·rw[ai (kk b _ q λc y=>by cases y),q];simp
 ·by_cases hb:b=dx
  ·subst hb;rw[aB]at q;cases q;refine⟨_,n1,λn=>?_⟩;rw[kS lf];by_cases hf:n=f
   ·rw[aU hf,aU hf];exact ry
   ·rw[aX hf,aX hf];exact rl n
  ·rw[ai hb]at q;refine(I2.bc b u q).nj (λc o hc r=>k c o ?_ r) (λc r=>?_) λc xs r=>?_
   ·rcases hc with y | y
    ·rw[y];exact hb
    ·exact kk c _ y λ_ w=>by cases w
   ·rw[ai (kk c _ r λ_ w=>by cases w)];exact r
   ·rw[ai (kk c _ r λ_ w=>by cases w)];exact r
end
def IM(K:PySem.W.Frag)(C D fI:Addr)(fs:List Str):Sp:=λvs H Q _=>∃a ys,vs=.ref a::ys/\ys.length=fs.length/\H a=some (X0 a C)/\pR K C D fI fs/\∀dx,H dx=none->dx≠a->Q .aK (a_ (a_ H dx (.xd (fs.zip ys))) a (X1 a C dx))
def yB(st:Stmt)(ns:List Str):Bool:=ns.all λn=>(match (aG st).names.lookup n with | some .local=>true | _=>false) && !(n==("__debug__" : Str)) && !(n==("__classdict__" : Str))
theorem yB.at{st:Stmt}{ns:List Str}(h:yB st ns=true){n:Str}(m:n∈ns):PX (aG st) n/\(n==("__debug__" : Str))=false/\(n==("__classdict__" : Str))=false:=by
 have q:=gM.mp h n m;simp only[av,gh]at q;obtain⟨⟨q1,q2⟩,q3⟩:=q;refine⟨.inl ?_,q2,q3⟩;split at q1
 ·assumption
 ·cases q1
theorem Av{H:Hp}{a b:Addr}{o u v:HO}(n:b≠a):a_ (a_ (a_ H b o) a u) b v=a_ (a_ H b v) a u:=by
 funext c;by_cases h1:c=b
 ·subst h1;rw[aB,ai n,aB]
 ·rw[ai h1];by_cases h2:c=a
  ·subst h2;rw[aB,aB]
  ·rw[ai h2,ai h1,ai h2,ai h1]
theorem Aw{P:Program}{w:World}{K:PySem.W.Frag}{mg:Str->Option Value}{base:Heap}{qual:Str}{st:Stmt}{fI C D:Addr}{fd:FuncData}{f g sf:Str}{p1 p2 p3 p4 q1 q2 q3 q4:Pos}{k:Nat} (F:Np K "__init__" qual st fI fd) (Sc:il [sf,f,g] [sf,f,g] (aG st)) (hb:bZ st=[.Assign [.Attribute (.Name sf p1) f p2] (.Name f p3) p4,.Assign [.Attribute (.Name sf q1) g q2] (.Name g q3) q4]) (n:yB st [sf,f,g]=true):eZ P w K mg base y9 (k+1) fI fd [sf,f,g] (IM K C D fI [f,g]):=by
 have h1:=yB.at n (n:=sf) (by simp);have h2:=yB.at n (n:=f) (by simp);have h3:=yB.at n (n:=g) (by simp)
 have nd:(g==f)=false:=by
  have:=Sc.nd;simp only[j2,cq,not_or]at this;simpa using dq this.2.1.1
 refine F.ok Sc (λvs H Q E h=>?_) λlY A outer s H vs Q E hr rG=>?_
 ·obtain⟨a,ys,rfl,hl,_⟩:=h;rw[fE,hl];rfl
 ·obtain⟨a,ys,rfl,hl,ha,xi,q⟩:=rG;rcases ys with _|⟨v,_|⟨v2,_|⟨_,_⟩⟩⟩<;>first | (simp at hl;done) | skip
  refine⟨_,by rw[hb];exact lV (NL (lR (i:=0) rfl h1.1 h1.2.1 h1.2.2) (lR (i:=1) rfl h2.1 h2.2.1 h2.2.2) rfl) (Dp (NM (lR (i:=0) rfl h1.1 h1.2.1 h1.2.2) (lR (i:=2) rfl h3.1 h3.2.1 h3.2.2) rfl)),?_⟩;refine⟨v,rfl,.ref a,rfl,a,C,D,fI,[f,g],rfl,ha,xi,by simp,λdx nx ne=>?_⟩;refine⟨v2,rfl,.ref a,rfl,a,C,D,fI,[f,g],dx,[(f,v)],rfl,aB,xi,by simp,by rw[ai ne];exact aB,by simp[dm,nd],by simp,?_⟩;rw[Av ne];exact q dx nx ne
section
variable {X:Cx}
def SD(E:XK)(C:Addr)(fs:List Str)(t:TA):TS:=λ_ σ H=>t σ H λvs H1=>vs.length=fs.length/\∀e dx,H1 e=none->H1 dx=none->dx≠e->E (.ref C) (some dx) (a_ (a_ H1 dx (.xd (fs.zip vs))) e (XO e C dx))
theorem Ax{E:XK}{k:Nat}{C D fI:Addr}{fd:FuncData}{oI:Obj}{fs:List Str}{sf x:Str}{e:Expr}{es:List Expr}{np dG pos:Pos}{t:TA}(p:oq X E)(hc:X.A.handled=none)(xi:pR X.K C D fI fs)(hf:X.K.lookup fI=some oI) (WL:oI.cls=.type "function") (F:eZ X.prog X.w X.K X.mg X.base y9 k fI fd (sf::fs) (IM X.K C D fI fs)) (hr:fF (k+1) X.A) (hb:Binds X.K fd (sf::fs) []) (WM:fs.length<=sizeLine) (hg:Gl X x) (hm:X.mg x=some (.ref C)) (ha:PA X (e::es) t) (hs:starEach (e::es) X.env=(false,eval e X.env)::starEach es X.env) (j_:(backTo dG (starEach (e::es) X.env)).any (·.1)=false) (yj:(x==("__debug__" : Str))=false):PS X (.Raise (some (.Call (.Name x np) (e::es) [] dG)) none pos) (SD E C fs t):=by
 intro aa s σ H Z I h;refine D6 (C:=C) (D:=D) hc j_ (ig I hg hm ⟨rfl,?_⟩ yj);have ha:=ha dG aa s σ H _ I h;rw[hs]at ha⊢;refine Calls.evalArgs_plain (bV ha ?_);rintro us s1 ⟨vs,H1,I1,r,ev,q⟩;obtain⟨mN,mD,xc,hi,_⟩:=xi.at I1.iU;refine⟨rfl,⟨mN,mD,xc⟩,?_⟩;obtain⟨h1,g1,d1,t1,Va⟩:=s1;refine As xc hi (I1.iU _ _ hf) WL (λh2 e hm l=>?_) (by rw[<- r.length,ev];exact WM);obtain⟨t,ge,_⟩:=hm.there;have ne:H1 e=none:=I1.bc.fresh l;have I2:Inv X aa σ (a_ H1 e (X0 e C)) ⟨h2,g1,d1,t1,Va⟩:=I1.laid (t':=t1) hm.keeps l ⟨⟨_,t,ge,rfl,rfl,rfl⟩,⟨_,ge⟩,λh1 h2 ⟨oe,t,e,r⟩ k=>⟨oe,t,k _ e,r⟩⟩
 have rG:IM X.K C D fI fs (.ref e::vs) (a_ H1 e (X0 e C)) (λw H2=>w=.aK/\∃dx,H1 dx=none/\dx≠e/\H2=a_ (a_ (a_ H1 e (X0 e C)) dx (.xd (fs.zip vs))) e (X1 e C dx)) E0 :=
  ⟨e,vs,rfl,ev,aB,xi,λdx nd y_=>⟨rfl,dx,by rw[ai y_]at nd;exact nd,y_,rfl⟩⟩
 have r2:aO (V.ref e::vs) (Value.ref e::us):=.cons rfl r;refine wpAny_call (xT (F.run _ X.stack _ _ ⟨.ref e::us,[]⟩ (.ref e::us) _ _ E0 (hr.make C us []) (I2.DH.make C us []) (by have:=hb ⟨h2,g1,d1,t1,Va⟩ (.ref e::us) I2.iU (by rw[qZ,fE,fE,<- r.length,ev]);rw[qZ]at this;exact this) r2 rG) λr s3 hq=>?_)
 cases r with
 | error e=>exact hq.elim
 | ok fl =>
  cases fl with
  | ret u =>
   obtain⟨w,H',I3,kg,ew,dx,nd,WN,eH⟩:=I2.after hq;subst ew;refine⟨kg,?_⟩;have e1:H' e=some (X1 e C dx):=by rw[eH];exact aB
   obtain⟨⟨oe,t3,g3,c3,d3,f3⟩,_⟩:=(show ba X.prog X.w H' s3.heap e (X1 e C dx) from I3.bc e _ e1)
   have WO:a_ H' e (XO e C dx)=a_ (a_ H1 dx (.xd (fs.zip vs))) e (XO e C dx):=by
    rw[eH];funext b;by_cases hb:b=e
    ·subst hb;rw[aB,aB]
    ·rw[ai hb,ai hb,ai hb];by_cases hd:b=dx
     ·subst hd;rw[aB,aB]
     ·rw[ai hd,ai hd,ai hb]
   have I4:Inv X aa σ (a_ H' e (XO e C dx)) s3:=I3.write (t':=s3.toks) (h':=s3.heap) (by rw[e1];exact True.intro) (.inl rfl) (λ_ _ _ z=>z) ⟨_,g3⟩ (XO.ok g3 c3 d3 f3);obtain⟨mN,mD,WQ,_⟩:=xi.at I3.iU;refine⟨e,oe,_,rfl,⟨mN,mD,WQ⟩,g3,c3,f3,rfl,?_⟩;refine p.xe I4 (lo:=h1.objs.size) ⟨l,oe,_,g3,c3,d3,f3,rfl⟩ aB lr.none I1.sz (bJ l (oY (bE g3))) ?_;rw[WO];exact q e dx ne nd WN
  | next=>exact hq.elim
  | brk=>exact hq.elim
  | cont=>exact hq.elim
end
end L2
end
section
namespace L2
open PySem PySem.Spec PyProof.Rows
theorem yC{K:PySem.W.Frag}{M:Model}{A:Around}{E:Value->Shared->Prop}{s:Shared}{e C B:Addr}{oe:Obj}{Q:Bool->Shared->Prop}(X:K.In s.heap)(he:s.heap.get? e=some oe)(hc:oe.cls=.ref C)(h1:PySem.W.kitCls K (.ref C) (.ref B)=some true) (h2:PySem.W.kitCls K (.ref B) (.type "BaseException")=some true) (hq:Q true s):wpAny M A (excMatches (.ref e) (.ref B)) Q E s:=by
 obtain⟨a1,a2,a3⟩:=PySem.W.kit_cls (M:=M) X h1;obtain⟨_,_,b3⟩:=PySem.W.kit_cls (M:=M) X h2;have t1:PySem.W.Looks M s.heap (isInstance (.ref B) (.type "tuple")) false:=a1.andThen (PySem.W.Looks.of_pure tc_notTuple);unfold excMatches isExcClass;refine aq (t1.at ?_);simp only[xD,ni];obtain⟨hp,g,d,tk,os⟩:=s;refine aq (aZ ?_);simp only[List.forIn_cons,List.forIn_nil]
 have t2:PySem.W.Looks M hp (typeOf (.ref e)) (.ref C):=by
  unfold typeOf;intro A' Q' E' s' k q;rw[<- hc]at q;exact aq (wpAny_loadPart (k _ _ he) (aZ q))
 refine aq (aq (aq (aq (a2.at ?_))));simp only[dE];refine b3.at ?_;simp only[Bool.not_true,xD,ni];refine aZ (aZ (aq (t2.at (aq (aq (aq (a3.at ?_)))))));simp only[dE];exact aZ (aZ (aZ hq))
noncomputable def Cx.hx(X:Cx)(e:Addr):Cx:={X with A:=X.A.mark (some (.ref e)),calm:=false,xe:=λ_ _=>False}
section
variable {X:Cx} {aa:List (Addr×Obj)} {σ:St} {H:Hp} {s:Shared} {e:Addr}
theorem Inv.hx(I:Inv X aa σ H s)(e:Addr):Inv (X.hx e) aa σ H s :=
 ⟨⟨I.ok.mod,I.ok.kind,I.ok.glob,I.ok.blt,I.ok.above,I.ok.inj,I.ok.has,I.ok.F1,λz=>Bool.noConfusion z,I.ok.frames,I.ok.vt,I.ok.PY,I.ok.bs,I.ok.CI,I.ok.x6,I.ok.x8,I.ok.j6,I.ok.F2⟩,I.os,I.bare,I.base,I.loc,I.cell,I.free,I.fR,I.pin,I.bc,I.len⟩
theorem Inv.SE(ok:X.Ok)(I:Inv (X.hx e) aa σ H s):Inv X aa σ H s:=⟨ok,I.os,I.bare,I.base,I.loc,I.cell,I.free,I.fR,I.pin,I.bc,I.len⟩
theorem name_goes{M:Model}{A:Around}{E:Value->Shared->Prop}{i:Nat}{n:Str}{pos:Pos}{Q:Unit->Shared->Prop}(I:Inv X aa σ H s)(hN:X.N.Nodup)(hi:X.N[i]?=some n)(hl:X.env.scope.names.lookup n=some .local)(h:∀s',Inv X aa (σ.set i none) H s'->Q () s'):wpAny M A (do bindName X.env n .none;unbindBehindTheSuite X.env n pos) Q E s:=by
 obtain⟨m,hn,SF⟩:=id I.loc;have HH:(X.env.scope.kind == .class||(X.env.scope.kind == .module&&X.env.locals != X.env.globals))=false:=by rw[I.ok.kind];rfl
 refine wpAny_nameGoes_keeps hl hn HH λh' v Rm hs=>?_;have K_:∀b o,X.dr.heap.get? b=some o->b≠X.env.locals:=λb o e=>eW (ft (bE e) I.ok.above);refine h _ ⟨I.ok,I.os,I.bare,⟨λb o e n hb hx=>(hs.2 b (K_ b o e)).trans (I.base.keep b o e n hb hx),λb o e n hb hx=>?_,I.base.free,λb o e hx=>?_,I.base.fQ,I.base.nk,I.base.pb⟩,⟨_,Rm,λj y v' e1 e2 e3=>?_⟩,λy c e=>?_,I.free,I.fR,λp hp=>?_,λb ob q=>?_,by rw[rf];exact I.len⟩
 ·obtain⟨sl,e1⟩:=I.base.slot b o e n hb hx;exact⟨sl,(hs.2 b (K_ b o e)).trans e1⟩
 ·obtain⟨o',e1⟩:=I.base.there b o e hx;exact⟨o',(hs.2 b (K_ b o e)).trans e1⟩
 ·have hj:j≠i:=λz=>by
   subst z;rw[List.getElem?_set]at e2;split at e2
   ·split at e2<;>cases e2
   ·exact absurd rfl ‹_›
  rw[lL (dq hj)]at e2;obtain⟨u',r',q⟩:=SF j y v' e1 e2 e3;refine⟨u',r',?_⟩;rcases q with⟨k,q⟩|⟨k,c,q,z⟩
  ·have ny:y≠n:=λz=>hj (lP hN e1 (by rw[z];exact hi));exact .inl ⟨k,by show(if y=n then v else m y)=_;rw[aX ny];exact q⟩
  ·exact .inr ⟨k,c,q,z.sameBut hs (I.Dl y c q)⟩
 ·obtain⟨w',z⟩:=I.cell y c e;exact⟨w',z.sameBut hs (I.Dl y c e)⟩
 ·obtain⟨e,n,ne,nf,d⟩:=I.pin p hp;exact⟨(hs.2 p.1 ne).trans e,n,ne,nf,d⟩
 ·refine(I.bc b ob q).nj (λc w' hc q'=>(hs.2 c ?_).trans q') (λ_ q=>q) λ_ _ q=>q;rintro rfl;rcases hc with z | z
  ·have:=I.free;rw[z,q]at this;cases this
  ·have:=I.free;rw[z]at this;cases this
theorem uu{Z:jm}{lo:Nat}{C dx B:Addr}{tr:Option Addr}{cn n:Str}{tp IP:Pos}{b0:Stmt}{hb:List Stmt}{th:TS}{i:Nat}(I:Inv X aa σ H s)(vt:X.stack=X.env::X.outer/\X.env.frame=some X.env.locals)(x:vP s.heap lo e C dx tr)(he:H e=some (XO e C dx))(hT:lr X aa H tr)(l2:lo<=s.heap.objs.size)(hg:Gl X cn)(hm:X.mg cn=some (.ref B)) (yj:(cn==("__debug__" : Str))=false) (k1:PySem.W.kitCls X.K (.ref C) (.ref B)=some true) (k2:PySem.W.kitCls X.K (.ref B) (.type "BaseException")=some true) (hN:X.N.Nodup) (hi:X.N[i]?=some n) (hl:X.env.scope.names.lookup n=some .local) (hh:nP (X.hx e) (b0::hb) th) (q:th {nx:=λDv H2=>Z.nx (Dv.set i none) H2,rt:=λ_ _=>False} (σ.set i (some (.ref e))) H):wpAny (model X.prog X.w) X.A (noteFrame (.ref e) X.env) (λ_ s2=>wpAny (model X.prog X.w) X.A (setFlight (.ref e) none) (λ_ s3=>wpAny (model X.prog X.w) X.A (handleBy (.ref e) X.env [.ExceptHandler (some (.Name cn tp)) (some n) (b0::hb) IP]) (SP X aa Z) X.xe s3) X.xe s2) X.xe s:=by
 refine r_ I vt x he hT l2 λs1 T I1 x1 lT nT=>?_;obtain⟨le,oe,vs,g1,c1,d1,f1,h1,nTe,_,oT,ts,gT,dT,h3⟩:=id x1;refine wpAny_handleBy_cons (codeAny_handlers_test ?_) (by intro q;cases q);refine ig (X:=X.hx e) (I1.hx e) hg hm ?_ yj;refine yC I1.iU g1 c1 k1 k2 ?_;refine codeAny_handlers_suite_as (wpAny_setFlight_none g1 f1 h1 gT dT (zi.mp h3).1 ?_);have tt:=lr.new (H':=H) I lT nT T rfl;have I2:Inv X aa σ H {s1 with heap:=s1.heap.update T (Obj.mapFields (·.setIfInBounds 3 .none))}:=I1.turned (t':=s1.toks) (it:=T) (λb o nb z=>(jX _ _ (dq nb)).trans z) nT tt.2.2.1 (.inr tt.2.1) tt.2.2.2.1 tt.2.2.2.2;refine jl (v:=.ref e) I2 hN hi (.inl hl) rfl (λs3 I3=>?_) (.inr hl);refine j4 (hh aa s3 _ H _ (I3.hx e) q) (λf s4 h4=>?_) λ_ _ z=>z.elim
 cases f with
 | next =>
  obtain⟨σ4,H4,I4,q4⟩:=h4;exact name_goes (I4.SE I.ok) hN hi hl λs5 I5=>⟨_,H4,I5,q4⟩
 | brk=>obtain⟨_,_,_,q4⟩:=h4;exact q4.elim
 | cont=>obtain⟨_,_,_,q4⟩:=h4;exact q4.elim
 | ret u=>obtain⟨_,_,_,_,_,q4⟩:=h4;exact q4.elim
end
end L2
end
section
namespace L2
open PySem PySem.Spec PyProof.Rows
theorem Ay{K:PySem.W.Frag}{x C D fI:Addr}{f:List Str}(xi:pR K C D fI f):PySem.W.KitX K (.ref x) (.ref C) (λh=>∃o,h.get? x=some o/\o.cls=.ref C) where
 ty:=λM h _ ⟨o,e,c⟩=>by
  unfold typeOf;intro A' Q' E' s' k q;rw[<- c]at q;exact aq (wpAny_loadPart (k _ _ e) (aZ q))
 it:=λM h X _=>by
  obtain⟨⟨nm,q,N,bs,sn,sub,ab,col,dd,k0,k1,k2,k3,k5,hC,_⟩,_,_⟩:=xi;intro A' Q' E' s' k q;unfold isType loadHead;exact aq (wpAny_loadPart (k _ _ (X _ _ hC)) (aZ q))
 ne:=λh tp dd aA n sl X WR=>by
  obtain⟨⟨nm,q,N,bs,sn,sub,ab,col,de,k0,k1,k2,k3,k5,hC,_⟩,_,_⟩:=xi;refine Bool.eq_false_iff.mpr λq=>?_;have e:C=tp:=Value.ref.inj (eB.mp q);subst e;have z:=oZ Obj.cls (cu ((X _ _ hC).symm.trans WR));exact absurd (show Value.type "type" = Value.type "tuple" from z) (by decide)
 ca:=λ{prog w A E Q s} X ⟨o,e,c⟩ k=>by
  obtain⟨mN,mD,xc,_,hn⟩:=xi.at X;obtain⟨h,g,d,t,os⟩:=s;have n1:=hn "__getattribute__" (fP _ (by simp[eC]));have n2:=hn "__getattr__" (fP _ (by simp[eC]));have n3:=hn "__class__" (fP _ (by simp[eC]));exact D8 xc n1.1 n1.2 n2.1 n2.2 n3.1 n3.2 e c k
section
variable {X:Cx}
theorem XO.at{P:Program}{w:World}{H:Hp}{h:Heap}{a C dx:Addr}(x:iF P w H h)(e:H a=some (XO a C dx)):∃oe vs,h.get? a=some oe/\oe.cls=.ref C/\oe.dict=some dx/\oe.data=.fields vs:=(show ba P w H h a (XO a C dx) from x a _ e).1
def SG(K:PySem.W.Frag):List V->Hp->VK->Prop:=λxs H Q=>∃a C dx D fI f y b,xs=[.ref a,y]/\H a=some (XO a C dx)/\pR K C D fI f/\( (∃c,RelV y c/\PySem.W.kitOne K (.ref C) c=some b)\/∃(tp:Addr) (cs:List Addr),y=.ref tp/\H tp=some (.tup (cs.map V.ref))/\PySem.W.kitAny K (.ref C) (cs.map Value.ref)=some b)/\Q (.bl b) H
theorem ou:∀{cs:List Addr}{us:List Value},aO (cs.map V.ref) us->us=cs.map Value.ref
 | [],_,.nil=>rfl
 | _::_,_,.cons r t=>by rw[(show _=Value.ref _ from r),ou t];rfl
theorem D_{y:V}{c u:Value}(h:RelV y c)(k:RelV y u)(n:∀i,y≠.int i)(m:∀i,y≠.str i)(o:∀i,y≠.F0 i)(p:∀i,y≠.Dj i):c=u:=by
 cases y with
 | int i=>exact absurd rfl (n i)
 | str i=>exact absurd rfl (m i)
 | F0 i=>exact absurd rfl (o i)
 | Dj i=>exact absurd rfl (p i)
 | aK=>exact(show c=_ from h).trans (show u=_ from k).symm
 | bl b=>exact(show c=_ from h).trans (show u=_ from k).symm
 | ref b=>exact(show c=_ from h).trans (show u=_ from k).symm
 | ty b=>exact(show c=_ from h).trans (show u=_ from k).symm
theorem Az:dt X (.builtin "isinstance") (SG X.K):=by
 intro aa s σ H xs us Q I r h;obtain⟨a,C,dx,D,fI,f,y,b,rfl,ea,xi,hc,q⟩:=h
 obtain⟨u1,u2,rfl,r1,r2⟩:∃u1 u2,us=[u1,u2]/\RelV (.ref a) u1/\RelV y u2:=by
  cases r with
  | cons r1 t=>cases t with
   | cons r2 t=>cases t;exact⟨_,_,rfl,r1,r2⟩
 obtain rfl:u1=Value.ref a:=r1;obtain⟨oe,vs,g1,c1,_,_⟩:=XO.at I.bc ea;have eY:∀tk,EP X aa σ Q (.bool b) {s with toks:=tk}:=λtk=>⟨.bl b,H,I.tok tk,rfl,q⟩;rcases hc with⟨c,rc,e⟩|⟨tp,cs,rfl,et,e⟩
 ·have:c=u2:=by
   refine D_ rc r2 ?_ ?_ ?_ ?_<;>(rintro i rfl;obtain⟨t,rfl⟩:=rc;exact absurd e (by unfold PySem.W.kitOne;rw[aX (by simp)];exact λz=>nomatch z))
  subst this;exact la (Ay xi) I.iU ⟨oe,g1,c1⟩ e (λz=>nomatch z) eY
 ·obtain rfl:u2=Value.ref tp:=r2;obtain⟨_,aA,rv,o,go,co,n,d1⟩:=(show ba X.prog X.w H s.heap tp (.tup (cs.map V.ref)) from I.bc tp _ et);have:=ou rv;subst this;obtain⟨oc,od,SH,pA⟩:=o;obtain rfl:oc=.type "tuple" := co;obtain rfl:SH=_:=d1;exact PySem.W.kia_tup (Ay xi) I.iU ⟨oe,g1,c1⟩ go e (λz=>nomatch z) eY
theorem yD{v:V}{u:Value}(r:RelV v u):handedOut u=pure u:=by
 cases v with
 | aK=>cases (show u=Value.none from r);rfl
 | bl b=>cases (show u=Value.bool b from r);rfl
 | int i=>obtain⟨t,e⟩:=(show ∃t,u=Value.int i t from r);cases e;rfl
 | str i=>obtain⟨t,e⟩:=(show ∃t,u=Value.str i t from r);cases e;rfl
 | F0 i=>obtain⟨t,e⟩:=r;cases e;rfl
 | Dj i=>obtain⟨t,e⟩:=r;cases e;rfl
 | ref b=>cases (show u=Value.ref b from r);rfl
 | ty b=>cases (show u=Value.type b from r);rfl
def WS(K:PySem.W.Frag)(te:TE)(f:Str):TE:=λσ H Q=>te σ H λx H1=>∃a C D fI dx gs fs i,x=.ref a/\H1 a=some (XO a C dx)/\pR K C D fI gs/\f∈gs/\H1 dx=some (.xd fs)/\fs.lookup f=some i/\Q i H1
theorem NN{e:Expr}{f:Str}{pos:Pos}{te:TE}(he:PE X e te)(hb:attributeBase e f X.env (eval e X.env)=eval e X.env):PE X (.Attribute e f pos) (WS X.K te f):=by
 intro aa s σ H Q I h;refine DG hb (bV (he aa s σ H _ I h) ?_);rintro u s1 ⟨x,H1,I1,rx,a,C,D,fI,dx,gs,fs,i,rfl,ea,xi,mf,ed,l,q⟩;obtain rfl:u=Value.ref a:=rx;obtain⟨oe,vs,g1,c1,d1,f1⟩:=XO.at I1.bc ea;obtain⟨mA,n1,rl⟩:=(show ba X.prog X.w H1 s1.heap dx (.xd fs) from I1.bc dx _ ed);have r:=rl f;rw[l]at r;obtain⟨mN,mD,xc,_,hn⟩:=xi.at I1.iU;have m1:=hn "__getattribute__" (fP _ (by simp[eC]));have m2:=hn "__getattr__" (fP _ (by simp[eC]));have m3:=hn f (oS _ mf)
 cases hv:mA f with
 | none=>rw[hv]at r;exact r.elim
 | some v =>
  rw[hv]at r;obtain⟨h1,g,d,tk,os⟩:=s1;exact IK xc m1.1 m1.2 m2.1 m2.2 m3.1 m3.2 (xi.ve f mf) g1 c1 f1 d1 n1 hv (yD r) ⟨i,H1,I1.tok _,r,q⟩
end
end L2
end
section
namespace L2
open PySem PySem.Spec PyProof.Rows
structure vR (k:Nat) (A:Around):Prop where
 dp:A.depth+3*k+5<recursionLimit
 un:A.units+16*k+200<cLine
structure se (P:Program) (w:World) (K:PySem.W.Frag) (mg:Str->Option Value) (base:Heap) (CX:vF) (k:Nat) (f:Addr) (fd:FuncData) (ps:List Str) (sp:Sp):Prop where
 len:∀vs H Q E,sp vs H Q E->vs.length=ps.length
 run:∀(A:Around)(outer:List Env)(s:Shared)(H:Hp)(args:Args)(us:List Value)(vs:List V)(Q:VK)(E:XK),vR k A->rC P w K mg base A outer s H->BindsTo s fd args (ps.zip us)->aO vs us->sp vs H Q E ->
  codeAny (model P w) A (.call (.ref f) args) (CR CX outer P w H s Q E) s
section
variable {X:Cx} {CX:vF} {k:Nat} {f C:Addr} {fd:FuncData} {ps:List Str} {sp:Sp} {ud:List V} {ds:List Value} {E:XK} {x m:Str} {p pos yi:Pos} {e o:Expr} {es:List Expr} {ta:TE} {t:TA}
theorem Ea{aa:List (Addr×Obj)}{σ:St}{H:Hp}{s:Shared}{Q:VK}{us:List Value}{vs:List V}(F:se X.prog X.w X.K X.mg X.base CX k f fd ps sp)(hr:vR k X.A)(hb:Binds X.K fd ps ds)(hd:aO ud ds)(hx:iX CX X E)(I:Inv X aa σ H s)(r:aO vs us)(h:sp (vs++ud) H Q E):wpAny (model X.prog X.w) X.A (call (.ref f) us) (EP X aa σ Q) X.xe s:=by
 have r2:aO (vs++ud) (us++ds):=r.append hd;have hl:(us++ds).length=ps.length:=by rw[<- r2.length];exact F.len _ _ _ _ h
 refine wpAny_call (xT (F.run X.A X.stack s H ⟨us,[]⟩ (us++ds) (vs++ud) Q E hr I.DH (hb s us I.iU hl) r2 h) λr s' hq=>?_)
 cases r with
 | error e=>exact hx aa σ H s e s' I hq
 | ok fl =>
  cases fl with
  | ret u=>exact I.after hq
  | next=>exact False.elim hq
  | brk=>exact False.elim hq
  | cont=>exact False.elim hq
theorem AA(F:se X.prog X.w X.K X.mg X.base CX k f fd ps sp)(hr:vR k X.A)(hg:Gl X x)(hm:X.mg x=some (.ref f))(hk:PySem.W.keepIn X.K (.ref f)=true)(hb:Binds X.K fd ps ds)(hd:aO ud ds)(hx:iX CX X E)(ha:PA X (e::es) t) (yj:(x==("__debug__" : Str))=false:=by decide) (he:starEach (e::es) X.env=(false,eval e X.env)::starEach es X.env:=by rfl) (j_:(backTo pos (starEach es X.env)).any (·.1)=false:=by rfl):PE X (.Call (.Name x p) (e::es) [] pos) (F_ sp ud E t):=by
 intro aa s σ H Q I h;refine zm (ig I hg hm ?_ yj);refine Hs (h₀:=X.base) I.ok.mod.Mj hk (bV (ha pos aa s σ H _ I h) λus s1 ⟨vs,H1,I1,r,q⟩=>⟨I1.iU,?_⟩) he j_;exact Ea F hr hb hd hx I1 r q
end
end L2
end
section
namespace L2
open PySem PySem.Spec PyProof.Rows
open Builtin
theorem kh:fillsNumberSlot (.type "tuple") "mul" = pure false :=
 PySem.fillsNumberSlot_seq (id := "tuple.__mul__") (r:=some (.builtin "tuple.__rmul__")) C9.lookup ⋯ F.slot_tuple_rmul.lookup ⋯
theorem pS:seqRepeat? (.type "tuple")=pure (some (.builtin "tuple.__mul__")):=by
 unfold seqRepeat?;rw[PySem.seqSlot_of (T := "tuple") (name := "__mul__") (id := "tuple.__mul__") C9.lookup ⋯,PySem.seqSlot_of (T := "tuple") (name := "__rmul__") (id := "tuple.__rmul__") F.slot_tuple_rmul.lookup ⋯];rfl
theorem mm(a:Int)(t:Tok)(l:Addr)(items:Array Value)(n:Nat)(od:Option Addr)(pA:Array (Option Value)):Meets (Builtin.«int.__rmul__» ⟨[.int a t,.ref l],[]⟩) (λ_ R s=>s.heap.get? l=some {cls:=.type "tuple",dict:=od,data:=.seq items n,slots:=pA}/\R (.ok (.ret Value.notImplemented)) s) :=
 .of_wp λprog w A R s h=>by obtain⟨hp,g,d,tk,os⟩:=s;obtain⟨hl,h⟩:=h;wp_walk;exact⟨_,rfl,h⟩
theorem mn(l:Addr)(items:Array Value)(n:Nat)(od:Option Addr)(pA:Array (Option Value))(x:Int)(u:Tok)(h1:-(2 ^ 63)<=x)(h2:x<2 ^ 63)(hs:(items.isEmpty||x==1)=true):Meets (Builtin.«tuple.__mul__» ⟨[.ref l,.int x u],[]⟩) (λ_ R s=>s.heap.get? l=some {cls:=.type "tuple",dict:=od,data:=.seq items n,slots:=pA}/\R (.ok (.ret (Value.ref l))) s) :=
 .of_wp λprog w A R s h=>by
  obtain⟨hp,g,d,tk,os⟩:=s;obtain⟨hl,h⟩:=h;have f1:=AutoSeq1.idx_int;have f2:=AutoSeq1.sub_tuple_tuple;have hf:(decide (x < -(2 ^ 63))||decide (x ≥ 2 ^ 63))=false:=by rw[bx ∅,bx ∅];rfl
  wp_walk using wpAny_loadPart' hl
  rw[aX (by rw[hf];exact au)]
  wp_walk using wpAny_loadPart' hl
  exact⟨_,rfl,h⟩
theorem nC(l:Addr)(items:Array Value)(n:Nat)(od:Option Addr)(pA:Array (Option Value))(x:Int)(u:Tok)(h1:-(2 ^ 63)<=x)(h2:x<2 ^ 63)(hs:(items.isEmpty||x==1)=false)(hz:items.size*x.toNat<=sizeLine):Meets (Builtin.«tuple.__mul__» ⟨[.ref l,.int x u],[]⟩) (λ_ R s=>s.heap.get? l=some {cls:=.type "tuple",dict:=od,data:=.seq items n,slots:=pA}/\R (.ok (.ret (Value.ref s.heap.objs.size))) {s with heap:=s.heap.push {cls:=.type "tuple",data:=.seq (List.foldl (λx1 x2=>x1++x2) #[] (List.replicate x.toNat items))}}) :=
 .of_wp λprog w A R s h=>by
  obtain⟨hp,g,d,tk,os⟩:=s;obtain⟨hl,h⟩:=h;have f1:=AutoSeq1.idx_int;have f2:=AutoSeq1.sub_tuple_tuple;have hf:(decide (x < -(2 ^ 63))||decide (x ≥ 2 ^ 63))=false:=by rw[bx ∅,bx ∅];rfl
  have he:items.isEmpty=false:=(Hl.mp hs).1
  wp_walk using wpAny_loadPart' hl
  rw[aX (by rw[hf];exact au)]
  wp_walk using wpAny_loadPart' hl
  rw[aX (by rw[hs];exact au)];by_cases h0:x<=0
  ·rw[aU (by rw[bB h0];rfl)];have e0:x.toNat=0:=∅;rw[e0]at h
   wp_walk
   exact⟨_,rfl,h⟩
  ·rw[aX (by rw[bx h0,he];exact au)];have ez:(items.size:Int)*x=((items.size*x.toNat:Nat):Int):=by rw[Int.natCast_mul,Int.toNat_of_nonneg ∅]
   have hb:¬(items.size:Int)*x>(2 ^ 63-1) / 8:=by
    rw[ez];have:(sizeLine:Nat)<=1000000000000:=by decide
    omega
   have ht:Tuple.tupleTooMany ((items.size:Int)*x)=false:=by
    unfold Tuple.tupleTooMany;rw[ez];exact bx ∅
   rw[aX hb,aX (by rw[ht];exact au)]
   have hsz:(List.foldl (λx1 x2=>x1++x2) #[] (List.replicate x.toNat items)).size<=sizeLine:=by
    have:=foldl_rep items.toList x.toNat [];rw[Dd,Array.toArray_toList]at this;rw[this,cF,pK,Nat.mul_comm];exact hz
   wp_walk
   exact⟨_,rfl,h⟩
def NO:R2:=λx y H Q=>∃l k xs,x=.ref l/\y=.int k/\H l=some (.tup xs)/\-(2 ^ 63)<=k/\k<2 ^ 63/\xs.length*k.toNat<=sizeLine /\
 ((List.replicate k.toNat xs).flatten=xs->Q (.ref l) H)/\∀p,H p=none->Q (.ref p) (a_ H p (.tup (List.replicate k.toNat xs).flatten))
section
variable {X:Cx}
theorem Eb:ik X (binaryOp .Mult) NO:=by
 intro aa s σ H x y v u Q I rx ry h;obtain⟨l,k,xs,rfl,rfl,hH,h1,h2,hz,q1,q2⟩:=h;cases rx;obtain⟨t,rfl⟩:=ry;obtain⟨hx,aA,r,o,e,c,n,d⟩:=(show ba X.prog X.w H s.heap l (.tup xs) from I.bc l _ hH);obtain⟨oc,od,SH,pA⟩:=o;obtain rfl:oc=.type "tuple" := c;obtain rfl:SH=.seq aA.toArray n:=d;have bf:aA.toArray.size*k.toNat<=sizeLine:=by rw[cF,<- r.length];exact hz
 refine wpAny_binaryOp_repeat_ref (T := "tuple") (U := "int") (by decide) ⟨_,e,rfl⟩ (λs'=>typeIs_int s' k t) kh F.fills_int_mul De pS F.slot_int_index.lookup
  (t6 De (typeIs_int s k t) F.entry_int_rmul (F.args_int_rmul_2 _ _) (mm k t l aA.toArray n od pA)
   ⟨e,rfl,⟨_,e,rfl⟩,?_⟩)
 cases hs:(aA.toArray.isEmpty||k==1)with
 | true =>
  refine t6 C9 ⟨_,e,rfl⟩ F.entry_tuple_mul (F.args_tuple_mul_2 _ _) (mn l aA.toArray n od pA k t h1 h2 hs) ⟨e,?_⟩;refine⟨.ref l,H,I,rfl,q1 ?_⟩;rcases Bool.or_eq_true_iff.mp hs with z | z
  ·have:aA=[]:=by simpa using z
   subst this;have:xs=[]:=List.length_eq_zero_iff.mp (by rw[r.length];rfl);subst this;simp
  ·have:k=1:=by simpa using z
   subst this;simp
 | false =>
  refine t6 C9 ⟨_,e,rfl⟩ F.entry_tuple_mul (F.args_tuple_mul_2 _ _) (nC l aA.toArray n od pA k t h1 h2 hs bf) ⟨e,?_⟩
  have lp:List.foldl (λx1 x2=>x1++x2) #[] (List.replicate k.toNat aA.toArray)=(List.replicate k.toNat aA).flatten.toArray:=by
   have:=foldl_rep aA k.toNat [];rw[Dd]at this;exact this
  rw[lp];have hf:H s.heap.objs.size=none:=I.bc.fresh (ar _);refine⟨.ref s.heap.objs.size,a_ H s.heap.objs.size (.tup (List.replicate k.toNat xs).flatten),I.laid (t':=s.toks) (λb u e=>cA _ e) (ar _) ?_,rfl,q2 _ hf⟩;exact⟨by rw[pK,Nat.mul_comm];exact hz,_,r.rep k.toNat,⟨_,fm _ rfl,rfl,_,rfl⟩⟩
end
end L2
end
section
open PySem PySem.Spec PyProof.Rows
namespace HT
section
variable {prog:Program} {w:World} {A:Around} {E:Value->Shared->Prop} {s:Shared}
theorem iE{t sl:Addr}{items:Array Value}{vl vu:Value}{lo hi:Option Int}{Q:Value->Shared->Prop}(ht:IsTup s.heap t items)(hs:s.heap.IsSliceOf sl vl vu .none)(pl:IsPart vl lo)(pu:IsPart vu hi)(hw:cE items.size 0 lo=0/\cE items.size items.size hi=items.size)(h:Q (.ref t) s):wpAny (model prog w) A (getItem (.ref t) (.ref sl)) Q E s:=by
 obtain⟨os,Iu,P8,MY⟩:=id hs;have RP:s.TypeIs (.ref sl) "slice" := ⟨os,Iu,P8⟩;unfold getItem
 try with_reducible refine nh ?_
 first | refine aq (aZ ?_) | skip
 refine aq (wpAny_sequenceKey ht.typeIs (by decide) ?_)
 refine aq (xx (name:=Str.ofString "__getitem__") ht.typeIs xu
  (xG xu ht.typeIs entry_tuple_getitem ?_ (args_tuple_getitem _ _)))
 show wpAny _ _ (Builtin.Tuple.tupleItemsOf (.ref t) >>= _) _ _ s;refine aq (tupleItemsOf_ ht ?_);refine aq (wpAny_typeOf RP ?_);rw[aU (by decide)];refine aq (fU hs pl pu ?_)
 have SI:(((cE items.size 0 lo:Nat):Int)==0&&(1:Int)==1&&(cE items.size items.size hi-cE items.size 0 lo)==items.size)=true:=by
  rw[hw.1,hw.2];simp
 show wpAny _ _ (if (((cE items.size 0 lo:Nat):Int)==0&&(1:Int)==1&&(cE items.size items.size hi-cE items.size 0 lo)==items.size)=true then _ else _) _ _ s;rw[aU SI];unfold Builtin.Tuple.tupleIsExact;refine aq (aq (wpAny_typeOf ht.typeIs (aZ ?_)));rw[aU (by decide)]
 wp_walk
 exact⟨_,rfl,aZ h⟩
end
end HT
namespace L2
def SJ(K:PySem.W.Frag):V->Option Int->Option Int->Hp->VK->Prop:=λx lo hi H Q=>∃a xs,x=.ref a/\fS K H a xs /\
 (HT.cE xs.length 0 lo=0/\HT.cE xs.length xs.length hi=xs.length)/\Q x H
theorem Ec{X:Cx}:M_ X (SJ X.K):=by
 intro aa s σ H x v vl vu lo hi sl Q I rx hs pl pu h;obtain⟨a,xs,rfl,hx,hw,q⟩:=h;cases rx;obtain⟨aA,r,ht,hz⟩:=I.tuple hx;have bf:aA.toArray.size=xs.length:=by rw[cF];exact r.length.symm
 refine⟨"tuple",_,xu.lookup,ht.typeIs,?_⟩;exact HT.iE ht hs pl pu (by rw[bf];exact hw) ⟨.ref a,H,I,rfl,q⟩
end L2
end
section
namespace L2
open PySem PySem.Spec PyProof.Rows
noncomputable def SM(x:Str):It:=⟨λi _=>i<x.cps.size,λi H y H'=>H'=H/\∃c,x.cps[i]?=some c/\y=.str ⟨#[c]⟩,λi _=>x.cps.size<=i⟩
theorem AB{P:Program}{w:World}{K:PySem.W.Frag}{tg:Expr}(it:Addr)(x:Str)(t:Tok):t7 P w K tg (SM x) [it] it (λi h=>h.IsStrIter it "str_ascii_iterator" x t i) where
 mem:=by simp
 obj:=λi h st b hb=>by
  have e:b=it:=by simpa using hb
  subst e;obtain⟨o,e,c,d⟩:=st;exact⟨o,e,λv z=>by rw[d]at z;cases z⟩
 keep:=λi h h' st k=>by
  obtain⟨o,e,q⟩:=st;exact⟨o,k it (by simp) o e,q⟩
 item:=by
  intro X hP hw hK hc i aa s σ H E I hf st hg;subst hP hw hK;obtain⟨f0,f1,f2,f3,f4,f5⟩:=hf it (by simp);have hx:x.cps[i]?=some x.cps[i]:=Array.getElem?_eq_getElem hg;refine wpAny_pyNext_ascii_item st hx λh' zO sb=>?_;have I1:Inv X aa σ H {s with heap:=h',toks:=s.toks+1}:=I.turned (λb o hb e=>(sb.2 b hb).trans e) f0 f1 f3 f4 f5;obtain⟨o,e,c,d⟩:=id zO;exact⟨_,rfl,vE (s:={s with heap:=h',toks:=s.toks+1}) e c d (by decide) ⟨.str ⟨#[x.cps[i]]⟩,H,I1,⟨s.toks,rfl⟩,⟨rfl,_,hx,rfl⟩,zO,λb hb=>(hf b hb).1⟩⟩
 done:=by
  intro X hP hw hK hc i aa s σ H E I hf st hg;subst hP hw hK;obtain⟨f0,f1,f2,f3,f4,f5⟩:=hf it (by simp);exact wpAny_pyNext_ascii_end (I.ok.hd hc) st (Array.getElem?_eq_none hg) λh' eb=>⟨rfl,I.turned (t':=s.toks) (λb o hb e=>eb b o hb e) f0 f1 f3 f4 f5⟩
 self:=λ_ _ _ _ _ st h=>wpAny_pyIter_striter_ascii st h
section
variable {X:Cx} {tg:Expr}
def SN(tl:TE):TI:=λσ H R=>tl σ H λy H1=>∃x:Str,y=.str x/\(x.cps.all λc=>decide (c<128))=true/\R (SM x) H1
theorem IQ{l:Expr}{tl:TE}(hl:PE X l tl):PI X tg l (SN tl):=by
 intro aa s σ H R I h;refine bV (hl aa s σ H _ I h) ?_;rintro v s1 ⟨y,H1,I1,r1,q1⟩;obtain⟨x,e,ha,q⟩:=q1;subst e;obtain⟨t,rfl⟩:=r1;refine wpAny_pyIter_ascii ha ?_;refine⟨s1.heap.objs.size,[s1.heap.objs.size],_,_,H1,rfl,I1.kept (t':=s1.toks) λb o e=>cA _ e,AB _ x t,⟨_,fm _ rfl,rfl,rfl⟩,λb hb=>?_,q⟩;have e:b=s1.heap.objs.size:=by simpa using hb
 subst e;exact I1.x_ (ar _) (I1.bc.fresh (ar _))
end
end L2
end
section
namespace Ev
open L2
open PySem PySem.Spec PyProof.Rows
set_option genInjectivity true in
inductive D where
 | aK | bl (b:Bool) | int (i:Int) | str (s:Str) | tup (ds:List D) | aC (n:Nat) | ls (ds:List D)
 deriving Inhabited
set_option genInjectivity true in
inductive MO where
 | lst (ds:List D) | iZ (ds:List D) | dK (ao:List (bC×D)) | dT (ao:List (List bC×D)) | dF (ao:List (List bC×D)) | xc (C:Addr) (fs:List (Str×D))
 deriving Inhabited
abbrev ag:=List MO
abbrev En:=List (Option D)
inductive W where
 | d (x:D) | lv (ds:List D)
 deriving Inhabited
structure tQ where
 cls:Addr
 fs:List (Str×D)
inductive bF (α:Type) where
 | ok (a:α) (M:ag) | err (x:tQ) (M:ag) | ae
noncomputable def bF.bind{α β:Type}(o:bF α)(f:α->ag->bF β):bF β:=match o with
 | .ok a M=>f a M
 | .err x M=>.err x M
 | .ae=>.ae
noncomputable def bF.b0{α β:Type}(o:bF α)(f:α->ag->bF β):bF β:=match o with
 | .ok a M=>f a M
 | _=>.ae
noncomputable def sg(K:PySem.W.Frag)(H:Hp)(a:Addr)(xs:List V):Prop :=
 (∃o,H a=some (.gA o (.lst xs)))\/∃(o:Obj) (aA:Array Value) (n:Nat),K.lookup a=some o/\o.cls=.type "list" /\ o.dict=none/\o.data=.seq aA n/\aA.size<=sizeLine/\aO xs aA.toList
theorem sg.sq{K:PySem.W.Frag}{H:Hp}{a:Addr}{xs:List V}(h:sg K H a xs):fv K H a xs:=by
 rcases h with⟨o,h⟩ | h
 ·exact .inl (.inr ⟨o,h⟩)
 ·exact .inr h
mutual
noncomputable def RD(K:PySem.W.Frag)(ads:List Addr)(H:Hp):D->V->Prop
 | .aK,v=>v=.aK
 | .bl b,v=>v=.bl b
 | .int i,v=>v=.int i
 | .str s,v=>v=.str s
 | .tup ds,v=>∃a xs,v=.ref a/\H a=some (.tup xs)/\aT K ads H ds xs
 | .aC n,v=>∃a,v=.ref a/\ads[n]?=some a
 | .ls ds,v=>∃a xs,v=.ref a/\sg K H a xs/\aT K ads H ds xs
noncomputable def aT(K:PySem.W.Frag)(ads:List Addr)(H:Hp):List D->List V->Prop
 | [],xs=>xs=[]
 | d::ds,xs=>∃x r,xs=x::r/\RD K ads H d x/\aT K ads H ds r
end
section
variable (K:PySem.W.Frag) (ads:List Addr) (H:Hp)
def bN{κ:Type}:List (κ×D)->List (κ×V)->Prop
 | [],xs=>xs=[]
 | p::ps,xs=>∃x r,xs=x::r/\p.1=x.1/\RD K ads H p.2 x.2/\bN ps r
def IS(a:Addr):MO->Prop
 | .lst ds=>∃xs,H a=some (.lst xs)/\aT K ads H ds xs
 | .iZ ds=>∃o xs,H a=some (.gA o (.lst xs))/\aT K ads H ds xs
 | .dK ao=>∃ks,H a=some (.dK ks)/\bN K ads H ao ks
 | .dT ao=>∃ks,H a=some (.dT ks)/\bN K ads H ao ks
 | .dF ao=>∃o ks,H a=some (.gA o (.dT ks))/\bN K ads H ao ks
 | .xc C fs=>∃dx gs,H a=some (XO a C dx)/\H dx=some (.xd gs)/\bN K ads H fs gs/\∃D fI,pR K C D fI (fs.map (·.1))
structure aD (M:ag):Prop where
 nd:∀(i j:Nat)(a:Addr),ads[i]?=some a->ads[j]?=some a->i=j\/∃C fs,M[i]?=some (.xc C fs)
 len:ads.length=M.length
 obj:∀(n:Nat)(o:MO)(a:Addr),M[n]?=some o->ads[n]?=some a->IS K ads H a o
def NP(ρ:En)(σ:L2.St):Prop:=∀(i:Nat)(d:D),ρ[i]?=some (some d)->∃v,σ[i]?=some (some v)/\RD K ads H d v
def RW:W->V->Prop
 | .d x,v=>RD K ads H x v
 | .lv ds,v=>∃a xs,v=.ref a/\H a=some (.lst xs)/\a∉ads/\aT K ads H ds xs
end
def Kept(ads:List Addr)(H H':Hp):Prop:=∀b o,b∉ads->H b=some o->H' b=some o
noncomputable def NQ(H H':Hp):Prop:=∀b xs,H b=some (.tup xs)->H' b=some (.tup xs)
structure ay (ads ax:List Addr) (H H':Hp):Prop where
 pre:∃r,ax=ads++r
 new:∀b∈ax,b∉ads->H b=none
 kept:Kept ads H H'
 fQ:NQ H H'
 gA:∀b o u,H b=some (.gA o u)->H' b=some (.gA o u)
theorem ay.refl(ads:List Addr)(H:Hp):ay ads ads H H:=⟨⟨[],by simp⟩,λb h n=>absurd h n,λ_ _ _ h=>h,λ_ _ h=>h,λ_ _ _ h=>h⟩
theorem ay.trans{a b c:List Addr}{H H1 H2:Hp}(g:ay a b H H1)(k:ay b c H1 H2):ay a c H H2:=by
 obtain⟨r,e⟩:=g.pre;obtain⟨r',e'⟩:=k.pre;refine⟨⟨r++r',by rw[e',e,xF]⟩,λx h n=>?_,λx o n h=>?_,λx xs h=>k.fQ x xs (g.fQ x xs h),λx o u h=>k.gA x o u (g.gA x o u h)⟩
 ·by_cases hb:x∈b
  ·exact g.new x hb n
  ·have:=k.new x h hb
   cases q:H x with
   | none=>rfl
   | some o=>rw[g.kept x o n q]at this;cases this
 ·refine k.kept x o (λhb=>?_) (g.kept x o n h);rw[g.new x hb n]at h;cases h
class EX where
 post:PySem.W.Frag->List Addr->Hp->tQ->ag->Prop
 shift:∀{K:PySem.W.Frag}{ads ax:List Addr}{H H':Hp}{x:tQ}{M:ag},post K ads H x M->ay ads ax H H'->post K ax H' x M
@[reducible] noncomputable def never:EX:=⟨λ_ _ _ _ _=>False,λh _=>h⟩
instance (priority:=low) Qh:EX:=never
@[reducible] def AD(E:XK):EX:=⟨λK ads H x M=>∀H' ax dx fs,ay ads ax H H'->aD K ax H' M->H' dx=some (.xd fs)->bN K ax H' x.fs fs->E (.ref x.cls) (some dx) H',λh g H1 ah dx fs g1 m1 e r=>h H1 ah dx fs (g.trans g1) m1 e r⟩
section
variable {K:PySem.W.Frag} {ads ax:List Addr} {H H':Hp}
theorem ay.get(g:ay ads ax H H'){n:Nat}{a:Addr}(h:ads[n]?=some a):ax[n]?=some a:=by
 obtain⟨r,e⟩:=g.pre;rw[e,gL (by have:=(d4.mp h).1;exact this)];exact h
theorem ay.iZ(g:ay ads ax H H'){a:Addr}{xs:List V}(h:sg K H a xs):sg K H' a xs:=by
 rcases h with⟨o,h⟩ | h
 ·exact .inl ⟨o,g.gA _ _ _ h⟩
 ·exact .inr h
mutual
theorem ay.rd(g:ay ads ax H H'):∀(d:D)(v:V),RD K ads H d v->RD K ax H' d v
 | .aK,_,h=>by unfold RD at *;exact h
 | .bl _,_,h=>by unfold RD at *;exact h
 | .int _,_,h=>by unfold RD at *;exact h
 | .str _,_,h=>by unfold RD at *;exact h
 | .aC n,v,h=>by unfold RD at *;obtain⟨a,e,h⟩:=h;exact⟨a,e,g.get h⟩
 | .tup ds,v,h=>by unfold RD at *;obtain⟨a,xs,e,h,r⟩:=h;exact⟨a,xs,e,g.fQ _ _ h,ay.nD g ds xs r⟩
 | .ls ds,v,h=>by unfold RD at *;obtain⟨a,xs,e,h,r⟩:=h;exact⟨a,xs,e,g.iZ h,ay.nD g ds xs r⟩
theorem ay.nD(g:ay ads ax H H'):∀(ds:List D)(vs:List V),aT K ads H ds vs->aT K ax H' ds vs
 | [],_,h=>by unfold aT at *;exact h
 | d::ds,vs,h=>by unfold aT at *;obtain⟨x,r,e,h1,h2⟩:=h;exact⟨x,r,e,ay.rd g d x h1,ay.nD g ds r h2⟩
end
theorem ay.zc{κ:Type}(g:ay ads ax H H'):∀(ds:List (κ×D))(vs:List (κ×V)),bN K ads H ds vs->bN K ax H' ds vs
 | [],_,h=>by unfold bN at *;exact h
 | d::ds,vs,h=>by unfold bN at *;obtain⟨x,r,e,h0,h1,h2⟩:=h;exact⟨x,r,e,h0,g.rd d.2 x.2 h1,ay.zc g ds r h2⟩
theorem ay.Vb(g:ay ads ax H H'){ρ:En}{σ:L2.St}(h:NP K ads H ρ σ):NP K ax H' ρ σ:=λi d e=>by
 obtain⟨v,e1,r⟩:=h i d e;exact⟨v,e1,g.rd d v r⟩
theorem ay.gB(g:ay ads ax H H'){a:Addr}{o:HO}(n:a∉ads)(e:H a=some o):a∉ax:=λh=>by
 rw[g.new a h n]at e;cases e
theorem ay.rw(g:ay ads ax H H'){w:W}{v:V}(h:RW K ads H w v):RW K ax H' w v:=by
 cases w with
 | d x=>exact g.rd x v h
 | lv ds =>
  obtain⟨a,xs,e,h,n,r⟩:=h;exact⟨a,xs,e,g.kept a _ n h,g.gB n h,g.nD ds xs r⟩
theorem aT.len:∀{ds:List D}{vs:List V},aT K ads H ds vs->ds.length=vs.length
 | [],_,h=>by unfold aT at h;subst h;rfl
 | d::ds,vs,h=>by unfold aT at h;obtain⟨x,r,e,h1,h2⟩:=h;subst e;simp[aT.len h2]
theorem aT.get:∀{ds:List D}{vs:List V}{i:Nat}{d:D},aT K ads H ds vs->ds[i]?=some d->∃v,vs[i]?=some v/\RD K ads H d v
 | [],_,_,_,h,e=>by simp at e
 | d::ds,vs,0,d',h,e=>by unfold aT at h;obtain⟨x,r,rfl,h1,h2⟩:=h;simp at e;subst e;exact⟨x,rfl,h1⟩
 | d::ds,vs,i+1,d',h,e=>by
  unfold aT at h;obtain⟨x,r,rfl,h1,h2⟩:=h;obtain⟨v,e',r'⟩:=aT.get (i:=i) h2 (by simpa using e);exact⟨v,by simpa using e',r'⟩
theorem aT.app:∀{ds es:List D}{vs ws:List V},aT K ads H ds vs->aT K ads H es ws->aT K ads H (ds++es) (vs++ws)
 | [],_,vs,_,h,k=>by unfold aT at h;subst h;exact k
 | d::ds,es,vs,ws,h,k=>by
  unfold aT at h;obtain⟨x,r,rfl,h1,h2⟩:=h;show aT K ads H (d::(ds++es)) (x::(r++ws));unfold aT;exact⟨x,_,rfl,h1,aT.app h2 k⟩
theorem aT.one{d:D}{v:V}(h:RD K ads H d v):aT K ads H [d] [v]:=by
 unfold aT;exact⟨v,[],rfl,h,by unfold aT;rfl⟩
theorem aT.take:∀{ds:List D}{vs:List V}(n:Nat),aT K ads H ds vs->aT K ads H (ds.take n) (vs.take n)
 | _,_,0,_=>by simp;unfold aT;rfl
 | [],vs,n+1,h=>by unfold aT at h;subst h;simp;unfold aT;rfl
 | d::ds,vs,n+1,h=>by unfold aT at h;obtain⟨x,r,rfl,h1,h2⟩:=h;simp only[List.take_succ_cons];unfold aT;exact⟨x,_,rfl,h1,aT.take n h2⟩
theorem aT.drop:∀{ds:List D}{vs:List V}(n:Nat),aT K ads H ds vs->aT K ads H (ds.drop n) (vs.drop n)
 | _,_,0,h=>by simpa using h
 | [],vs,n+1,h=>by unfold aT at h;subst h;simp;unfold aT;rfl
 | d::ds,vs,n+1,h=>by unfold aT at h;obtain⟨x,r,rfl,h1,h2⟩:=h;simp only[List.drop_succ_cons];exact aT.drop n h2
theorem aT.setAt:∀{ds:List D}{vs:List V}(n:Nat){d:D}{v:V},aT K ads H ds vs->RD K ads H d v->aT K ads H (ds.set n d) (vs.set n v)
 | [],vs,n,_,_,h,_=>by unfold aT at h;subst h;simp;unfold aT;rfl
 | d::ds,vs,0,_,_,h,k=>by unfold aT at h;obtain⟨x,r,rfl,h1,h2⟩:=h;simp only[List.set_cons_zero];unfold aT;exact⟨_,_,rfl,k,h2⟩
 | d::ds,vs,n+1,_,_,h,k=>by unfold aT at h;obtain⟨x,r,rfl,h1,h2⟩:=h;simp only[List.set_cons_succ];unfold aT;exact⟨_,_,rfl,h1,aT.setAt n h2 k⟩
theorem aD.AE{M:ag}(m:aD K ads H M){a:Addr}(h:a∈ads):∃o,H a=some o/\(∀xs,o≠.tup xs)/\∀xs,o≠.xd xs:=by
 obtain⟨n,hn,e⟩:=CY.mp h;have e2:ads[n]?=some a:=by rw[eK hn,e]
 have hM:n<M.length:=by rw[<- m.len];exact hn
 have h:=m.obj n M[n] a (eK hM) e2
 cases q:M[n]with
 | lst ds=>rw[q]at h;obtain⟨xs,h,r⟩:=h;exact⟨_,h,(λ_ z=>by cases z),λ_ z=>by cases z⟩
 | iZ ds=>rw[q]at h;obtain⟨o,xs,h,r⟩:=h;exact⟨_,h,(λ_ z=>by cases z),λ_ z=>by cases z⟩
 | dK ds=>rw[q]at h;obtain⟨xs,h,r⟩:=h;exact⟨_,h,(λ_ z=>by cases z),λ_ z=>by cases z⟩
 | dT ds=>rw[q]at h;obtain⟨xs,h,r⟩:=h;exact⟨_,h,(λ_ z=>by cases z),λ_ z=>by cases z⟩
 | dF ds=>rw[q]at h;obtain⟨o,xs,h,r⟩:=h;exact⟨_,h,(λ_ z=>by cases z),λ_ z=>by cases z⟩
 | xc C ds=>rw[q]at h;obtain⟨dx,gs,h,r⟩:=h;exact⟨_,h,(λ_ z=>by cases z),λ_ z=>by cases z⟩
theorem aD.there{M:ag}(m:aD K ads H M){a:Addr}(h:a∈ads):∃o,H a=some o/\∀xs,o≠.tup xs:=by
 obtain⟨o,e,n,_⟩:=m.AE h;exact⟨o,e,n⟩
theorem aD.xd{M:ag}(m:aD K ads H M){a:Addr}{gs:List (Str×V)}(h:H a=some (.xd gs)):a∉ads:=λz=>by
 obtain⟨o,e,_,n⟩:=m.AE z;rw[h]at e;exact n gs (cu e).symm
theorem aD.grow{M:ag}(m:aD K ads H M)(g:ay ads ads H H')(k:∀a∈ads,H' a=H a):aD K ads H' M:=⟨m.nd,m.len,λn o a e1 e2=>by
 have h:=m.obj n o a e1 e2;have ha:=k a (dC e2)
 cases o with
 | lst ds=>obtain⟨xs,h,r⟩:=h;exact⟨xs,ha.trans h,g.nD _ _ r⟩
 | iZ ds=>obtain⟨o,xs,h,r⟩:=h;exact⟨o,xs,ha.trans h,g.nD _ _ r⟩
 | dK ds=>obtain⟨xs,h,r⟩:=h;exact⟨xs,ha.trans h,g.zc _ _ r⟩
 | dT ds=>obtain⟨xs,h,r⟩:=h;exact⟨xs,ha.trans h,g.zc _ _ r⟩
 | dF ds=>obtain⟨o,xs,h,r⟩:=h;exact⟨o,xs,ha.trans h,g.zc _ _ r⟩
 | xc C ds=>obtain⟨dx,gs,h,hd,r,x⟩:=h;exact⟨dx,gs,ha.trans h,g.kept _ _ (m.xd hd) hd,g.zc _ _ r,x⟩⟩
theorem aD.fresh{M:ag}(m:aD K ads H M){p:Addr}(h:H p=none):p∉ads:=λz=>by
 obtain⟨o,e,_⟩:=m.there z;rw[h]at e;cases e
theorem ay.dM{M:ag}(m:aD K ads H M){p:Addr}{o:HO}(h:H p=none):ay ads ads H (a_ H p o) :=
 ⟨⟨[],by simp⟩,λb h n=>absurd h n,λb u n e=>by rw[ai (λz=>by subst z;rw[h]at e;cases e)];exact e,λb xs e=>by rw[ai (λz=>by subst z;rw[h]at e;cases e)];exact e,λb u x e=>by rw[ai (λz=>by subst z;rw[h]at e;cases e)];exact e⟩
theorem aD.dM{M:ag}(m:aD K ads H M){p:Addr}{o:HO}(h:H p=none):aD K ads (a_ H p o) M :=
 m.grow (ay.dM m h) λa ha=>ai (λz=>by subst z;exact m.fresh h ha)
mutual
theorem RD.wide{a:Addr}:∀(d:D)(v:V),RD K ads H d v->RD K (ads++[a]) H d v
 | .aK,_,h=>by unfold RD at *;exact h
 | .bl _,_,h=>by unfold RD at *;exact h
 | .int _,_,h=>by unfold RD at *;exact h
 | .str _,_,h=>by unfold RD at *;exact h
 | .aC n,v,h=>by
  unfold RD at *;obtain⟨b,e,h⟩:=h;exact⟨b,e,by rw[gL (d4.mp h).1];exact h⟩
 | .tup ds,v,h=>by unfold RD at *;obtain⟨b,xs,e,h,r⟩:=h;exact⟨b,xs,e,h,aT.wide ds xs r⟩
 | .ls ds,v,h=>by unfold RD at *;obtain⟨b,xs,e,h,r⟩:=h;exact⟨b,xs,e,h,aT.wide ds xs r⟩
theorem aT.wide{a:Addr}:∀(ds:List D)(vs:List V),aT K ads H ds vs->aT K (ads++[a]) H ds vs
 | [],_,h=>by unfold aT at *;exact h
 | d::ds,vs,h=>by unfold aT at *;obtain⟨x,r,e,h1,h2⟩:=h;exact⟨x,r,e,RD.wide d x h1,aT.wide ds r h2⟩
end
theorem bN.wide{κ:Type}{a:Addr}:∀(ds:List (κ×D))(vs:List (κ×V)),bN K ads H ds vs->bN K (ads++[a]) H ds vs
 | [],_,h=>by unfold bN at *;exact h
 | d::ds,vs,h=>by unfold bN at *;obtain⟨x,r,e,h0,h1,h2⟩:=h;exact⟨x,r,e,h0,RD.wide d.2 x.2 h1,bN.wide ds r h2⟩
theorem IS.wide{a b:Addr}{o:MO}(h:IS K ads H b o):IS K (ads++[a]) H b o:=by
 cases o with
 | lst ds=>obtain⟨xs,h,r⟩:=h;exact⟨xs,h,r.wide⟩
 | iZ ds=>obtain⟨o,xs,h,r⟩:=h;exact⟨o,xs,h,r.wide⟩
 | dK ds=>obtain⟨xs,h,r⟩:=h;exact⟨xs,h,r.wide⟩
 | dT ds=>obtain⟨xs,h,r⟩:=h;exact⟨xs,h,r.wide⟩
 | dF ds=>obtain⟨o,xs,h,r⟩:=h;exact⟨o,xs,h,r.wide⟩
 | xc C ds=>obtain⟨dx,gs,h,hd,r,x⟩:=h;exact⟨dx,gs,h,hd,r.wide,x⟩
theorem aD.pushX{M:ag}{o:MO}{a:Addr}(m:aD K ads H M)(n:a∉ads\/∃C dx fs,o=.xc C fs/\H a=some (XO a C dx))(h:IS K ads H a o):aD K (ads++[a]) H (M++[o]) where
 nd:=λi j b e1 e2=>by
  have li:=(d4.mp e1).1;have lj:=(d4.mp e2).1;rw[bY,List.length_singleton]at li lj;have lC:∀k,k<ads.length->(ads++[a])[k]?=some b->ads[k]?=some b:=λk hk e=>by rw[gL hk]at e;exact e
  have new:∀k,¬k<ads.length->k<ads.length+1->(ads++[a])[k]?=some b->b=a:=λk hk NR e=>by
   obtain rfl:k=ads.length:=∅;rw[m9 (ar _)]at e;simp at e;exact e.symm
  have ow:∀k,k<ads.length->ads[k]?=some a->(∃C dx,H a=some (XO a C dx))->∃C fs,M[k]?=some (.xc C fs):=λk hk e ⟨C,dx,hx⟩=>by
   have hM:k<M.length:=by rw[<- m.len];exact hk
   have q:=m.obj k M[k] a (eK hM) e
   cases w:M[k]with
   | lst ds=>rw[w]at q;obtain⟨xs,q,_⟩:=q;rw[hx]at q;cases q
   | iZ ds=>rw[w]at q;obtain⟨o,xs,q,_⟩:=q;rw[hx]at q;cases q
   | dK ds=>rw[w]at q;obtain⟨xs,q,_⟩:=q;rw[hx]at q;cases q
   | dT ds=>rw[w]at q;obtain⟨xs,q,_⟩:=q;rw[hx]at q;cases q
   | dF ds=>rw[w]at q;obtain⟨o,xs,q,_⟩:=q;rw[hx]at q;cases q
   | xc C fs=>exact⟨C,fs,by rw[eK hM,w]⟩
  by_cases hi:i<ads.length
  ·by_cases hj:j<ads.length
   ·rcases m.nd i j b (lC i hi e1) (lC j hj e2)with z | ⟨C,fs,z⟩
    ·exact .inl z
    ·exact .inr ⟨C,fs,by rw[gL (by rw[<- m.len];exact hi)];exact z⟩
   ·obtain rfl:=new j hj lj e2;rcases n with n | ⟨C,dx,fs,rfl,hx⟩
    ·exact absurd (dC (lC i hi e1)) n
    ·obtain⟨C,fs,z⟩:=ow i hi (lC i hi e1) ⟨C,dx,hx⟩;exact .inr ⟨C,fs,by rw[gL (by rw[<- m.len];exact hi)];exact z⟩
  ·obtain rfl:=new i hi li e1;by_cases hj:j<ads.length
   ·rcases n with n | ⟨C,dx,fs,rfl,hx⟩
    ·exact absurd (dC (lC j hj e2)) n
    ·refine .inr ⟨C,fs,?_⟩;obtain rfl:i=M.length:=by rw[<- m.len];omega
     rw[m9 (ar _)];simp
   ·exact .inl ∅
 len:=by simp[m.len]
 obj:=λi o' b e1 e2=>by
  by_cases hi:i<M.length
  ·rw[gL hi]at e1;rw[gL (by rw[m.len];exact hi)]at e2;exact(m.obj i o' b e1 e2).wide
  ·have WT:i=M.length:=by
    have:=(d4.mp e1).1;simp at this;omega
   subst WT;rw[m9 (ar _)]at e1;rw[m9 (by rw[m.len];exact ar _)]at e2;simp[m.len]at e1 e2;subst e1 e2;exact h.wide
theorem aD.push{M:ag}{o:MO}{a:Addr}(m:aD K ads H M)(n:a∉ads)(h:IS K ads H a o):aD K (ads++[a]) H (M++[o]):=m.pushX (.inl n) h
theorem aD.write{M:ag}{n:Nat}{a:Addr}{u o:MO}{ho:HO}(m:aD K ads H M)(e:M[n]?=some u)(ea:ads[n]?=some a)(nf:∀o x,H a≠some (.gA o x))(hn:IS K ads (a_ H a ho) a o)(hu:∀C fs,u≠.xc C fs:=by intro _ _ z;cases z):ay ads ads H (a_ H a ho)/\aD K ads (a_ H a ho) (M.set n o):=by
  have Ed:a∈ads:=dC ea;obtain⟨o1,e1,nt⟩:=m.there Ed
  have g : ay ads ads H (a_ H a ho) := ⟨⟨[], by simp⟩, fun b h n => absurd h n, fun b x nb h => by rw [ai (by intro z; subst z; exact nb Ed)]; exact h, fun b xs h => by
      rw[ai (λz=>by subst z;rw[e1]at h;exact nt xs (cu h))];exact h,λb o u h=>by rw[ai (λz=>by subst z;exact nf _ _ h)];exact h⟩
  have ne:∀(i:Nat)(o':MO)(b:Addr),i≠n->M[i]?=some o'->ads[i]?=some b->b≠a:=λi o' b hi x1 x2 z=>by
    subst z;rcases m.nd n i b ea x2 with q | ⟨C,fs,q⟩
    · exact hi q.symm
    · rw[e]at q;exact hu C fs (cu q)
  refine⟨g,λi j b x1 x2=>?_,by rw[rf];exact m.len,λi o' b x1 x2=>?_⟩
  · rcases m.nd i j b x1 x2 with z | ⟨C,fs,z⟩
    · exact .inl z
    · refine .inr ⟨C,fs,?_⟩;rw[lL (λq=>?_)]
      · exact z
      · subst q;rw[e]at z;exact hu C fs (cu z)
  by_cases hi:i=n
  · subst hi;rw[ea]at x2;cases x2;rw[tW (d4.mp e).1]at x1;cases x1;exact hn
  · rw[lL (dq hi)]at x1;have hb:b≠a:=ne i o' b hi x1 x2;have h:=m.obj i o' b x1 x2
    cases o' with
    | lst ds=>obtain⟨xs,h,r⟩:=h;exact⟨xs,by rw[ai hb];exact h,g.nD _ _ r⟩
    | iZ ds=>obtain⟨o,xs,h,r⟩:=h;exact⟨o,xs,by rw[ai hb];exact h,g.nD _ _ r⟩
    | dK ds=>obtain⟨xs,h,r⟩:=h;exact⟨xs,by rw[ai hb];exact h,g.zc _ _ r⟩
    | dT ds=>obtain⟨xs,h,r⟩:=h;exact⟨xs,by rw[ai hb];exact h,g.zc _ _ r⟩
    | dF ds=>obtain⟨o,xs,h,r⟩:=h;exact⟨o,xs,by rw[ai hb];exact h,g.zc _ _ r⟩
    | xc C ds=>obtain⟨dx,gs,h,hd,r,x⟩:=h;exact⟨dx,gs,by rw[ai hb];exact h,g.kept _ _ (m.xd hd) hd,g.zc _ _ r,x⟩
end
mutual
noncomputable def cL(M:ag):Nat->D->Option PyData
 | _,.aK=>some .none
 | _,.bl b=>some (.bool b)
 | _,.int i=>some (.int i)
 | _,.str s=>some (.str s)
 | 0,.tup _=>none
 | 0,.aC _=>none
 | 0,.ls _=>none
 | n+1,.ls ds=>(bj M n ds).map .list
 | n+1,.tup ds=>(bj M n ds).map .tuple
 | n+1,.aC k=>match M[k]? with
  | some (.lst ds)=>(bj M n ds).map .list
  | some (.iZ ds)=>(bj M n ds).map .list
  | _=>none
noncomputable def bj(M:ag):Nat->List D->Option (List PyData)
 | _,[]=>some []
 | n,d::ds=>match cL M n d,bj M n ds with
  | some p,some ps=>some (p::ps)
  | _,_=>none
end
def jw(M:ag):W->Option PyData
 | .d x=>cL M 30 x
 | .lv ds=>(bj M 30 ds).map .list
inductive CO where
 | add | sub | mul | fdiv | mod | pow
 deriving DecidableEq
inductive yE where
 | eq | ne | lt | le | gt | ge | mq | gF | isin | gB
 deriving DecidableEq
inductive Ty where
 | int | bool | str | tuple | list | dict | none
 deriving DecidableEq
inductive Bi where
 | len | max2 | min2 | mr | list1 | tuple1 | iI | iJ (t:Ty) | all1 | Ee | vS | min1 | Ef | vT | str1
 deriving DecidableEq
inductive Me where
 | append | insert | reverse | extend | remove | clear | pop
 deriving DecidableEq
inductive SK where
 | seq | fb | AF | enum | zip | Eg | keys | vals
 deriving DecidableEq
inductive IX where
 | one (x:Str) | ve | many (xs:List Str)
 deriving DecidableEq
mutual
inductive C where
 | eO (i:Nat)
 | aN (d:D)
 | bin (op:CO) (a b:C)
 | cmp (op:yE) (a b:C)
 | chain (o1 o2:yE) (a b c:C)
 | cw (cs:List C) | bU (cs:List C) | neg (a:C)
 | tup (cs:List C) | lst (cs:List C)
 | sub (a b:C)
 | gH (a:C) (lo hi:Option C)
 | fV (a b:C)
 | call (f:Nat) (cs:List C)
 | bi (b:Bi) (cs:List C)
 | me (m:Me) (o:C) (cs:List C)
 | vU (ks:List Str) (cs:List C)
 | jV (tp:Bool) (cs:List C)
 | qT (x:Str) (v:Int)
 | lx
 | fW (ng:Bool) (a b:C)
 | fc (ng:Bool) (a:C)
 | xf (a:C) (f:Str)
 | ow (a:C) (k:IX) (tb:List (Addr×Bool))
 | fX (f:Nat) (cs:List C)
 | comp (k:SK) (cU:List C) (tg:List Nat) (cond:Option eh) (elt:C) (cz:List (Option Nat))
inductive eh where
 | val (c:C) | cw (ts:List eh) | bU (ts:List eh) | neg (a:eh)
end
instance (n:Nat):OfNat C n:=⟨.eO n⟩
abbrev C.kn(k:Int):C:=.aN (.int k)
abbrev C.ks(i:Nat)(k:Int):C:=.sub (.eO i) (.aN (.int k))
noncomputable def bD(M:ag):W->Option (Bool×List D)
 | .lv ds=>some (true,ds)
 | .d (.tup ds)=>some (false,ds)
 | .d (.ls ds)=>some (true,ds)
 | .d (.aC n)=>match M[n]? with
  | some (.lst ds)=>some (true,ds)
  | some (.iZ ds)=>some (true,ds)
  | _=>none
 | _=>none
noncomputable def dH(M:ag):W->Option (List D)
 | .lv ds=>some ds
 | .d (.aC n)=>match M[n]? with
  | some (.lst ds)=>some ds
  | _=>none
 | _=>none
noncomputable def own:W->ag->bF D
 | .d x,M=>.ok x M
 | .lv ds,M=>.ok (.aC M.length) (M++[.lst ds])
def Qi(ds:List D)(i:Int):Option D:=nq ds i
def cutD(ds:List D)(lo hi:Option Int):List D:=(ds.drop (HT.cE ds.length 0 lo)).take (HT.cE ds.length ds.length hi-HT.cE ds.length 0 lo)
def pT(op:CO)(a b:W)(M:ag):bF W :=
 match op,a,b with
 | .add,.d (.int i),.d (.int j)=>.ok (.d (.int (i+j))) M
 | .sub,.d (.int i),.d (.int j)=>.ok (.d (.int (i-j))) M
 | .mul,.d (.int i),.d (.int j)=>if (-(2 ^ 64)<i/\i<2 ^ 64)\/(-(2 ^ 64)<j/\j<2 ^ 64) then .ok (.d (.int (i*j))) M else .ae
 | .fdiv,.d (.int i),.d (.int j)=>if 0<j/\j<1073741824 then .ok (.d (.int (i / j))) M else .ae
 | .mod,.d (.int i),.d (.int j)=>if 0<j then .ok (.d (.int (i % j))) M else .ae
 | .pow,.d (.int i),.d (.int j)=>if 0<=j/\j<=1000000/\i.natAbs<2 ^ 64 then .ok (.d (.int (i ^ j.toNat))) M else .ae
 | .add,.d (.tup xs),.d (.tup ys)=>if xs.length+ys.length<=sizeLine then .ok (.d (.tup (xs++ys))) M else .ae
 | .add,a,b=>match dH M a,dH M b with
  | some xs,some ys=>if xs.length+ys.length<=sizeLine then .ok (.lv (xs++ys)) M else .ae
  | _,_=>.ae
 | .mul,.d (.tup xs),.d (.int k)=>if -(2 ^ 63)<=k/\k<2 ^ 63/\xs.length*k.toNat<=sizeLine then .ok (.d (.tup (List.replicate k.toNat xs).flatten)) M else .ae
 | .mul,a,.d (.int k)=>match dH M a with
  | some xs=>if -(2 ^ 63)<=k/\k<2 ^ 63/\xs.length*k.toNat<=sizeLine then .ok (.lv (List.replicate k.toNat xs).flatten) M else .ae
  | none=>.ae
 | _,_,_=>.ae
noncomputable def gm(p:PyData):List PyData->Bool
 | []=>false
 | q::qs=>PyData.eqv q p||gm p qs
noncomputable def i_(M:ag):W->Option (List (bC×D))
 | .d (.aC n)=>match M[n]? with
  | some (.dK ao)=>some ao
  | _=>none
 | _=>none
noncomputable def uv:W->Option bC
 | .d (.int i)=>some (Sum.inl i)
 | .d (.str s)=>some (Sum.inr s)
 | _=>none
noncomputable def dN{κ:Type}[DecidableEq κ](ao:List (κ×D))(k:κ):Option D:=(ao.find? λp=>decide (p.1=k)).map (·.2)
def uw(M:ag)(kb:List (bC×D)):List (bC×D)->Option Bool
 | []=>some true
 | (k,v)::r=>match dN kb k with
  | none=>some false
  | some y=>match cL M 30 v,cL M 30 y with
   | some p,some q=>if SeqAt.shaped p=true/\SeqAt.shaped q=true then (uw M kb r).map (PyData.eqv p q && ·) else none
   | _,_=>none
def bp(op:yE)(a b:W)(M:ag):bF Bool :=
 match op with
 | .eq=>match jw M a,jw M b with
  | some p,some q=>if SeqAt.shaped p=true/\SeqAt.shaped q=true then .ok (PyData.eqv p q) M else .ae
  | _,_=>match i_ M a,i_ M b with
   | some ka,some kb=>match uw M kb ka with
    | some r=>.ok (ka.length==kb.length&&r) M
    | none=>.ae
   | _,_=>.ae
 | .ne=>match jw M a,jw M b with
  | some p,some q=>if SeqAt.shaped p=true/\SeqAt.shaped q=true then .ok (!PyData.eqv p q) M else .ae
  | _,_=>.ae
 | .lt=>match a,b with
  | .d (.int i),.d (.int j)=>.ok (decide (i<j)) M
  | .d (.str x),.d (.str y)=>.ok (decide (x.cps.toList<y.cps.toList)) M
  | _,_=>.ae
 | .le=>match a,b with
  | .d (.int i),.d (.int j)=>.ok (decide (i<=j)) M
  | .d (.str x),.d (.str y)=>.ok (!decide (y.cps.toList<x.cps.toList)) M
  | _,_=>.ae
 | .gt=>match a,b with
  | .d (.int i),.d (.int j)=>.ok (decide (j<i)) M
  | _,_=>.ae
 | .ge=>match a,b with
  | .d (.int i),.d (.int j)=>.ok (decide (j<=i)) M
  | _,_=>.ae
 | .mq=>match a with
  | .d .aK=>.ok true M
  | _=>.ok false M
 | .gF=>match a with
  | .d .aK=>.ok false M
  | _=>.ok true M
 | .isin=>match jw M a,bD M b with
  | some p,some (_,ds)=>match bj M 30 ds with
   | some qs=>if SeqAt.shaped p=true/\qs.all SeqAt.shaped=true then .ok (gm p qs) M else .ae
   | none=>.ae
  | _,none=>match uv a,i_ M b with
   | some k,some ao=>.ok (dN ao k).isSome M
   | _,_=>.ae
  | _,_=>.ae
 | .gB=>match jw M a,bD M b with
  | some p,some (_,ds)=>match bj M 30 ds with
   | some qs=>if SeqAt.shaped p=true/\qs.all SeqAt.shaped=true then .ok (!gm p qs) M else .ae
   | none=>.ae
  | _,none=>match uv a,i_ M b with
   | some k,some ao=>.ok (!(dN ao k).isSome) M
   | _,_=>.ae
  | _,_=>.ae
def nE(M:ag):W->Option Bool
 | .d .aK=>some false
 | .d (.bl b)=>some b
 | .d (.int i)=>some (i != 0)
 | w=>(bD M w).map λp=>!p.2.isEmpty
def dO(a b:W)(M:ag):bF W :=
  match b with
  | .d (.int i)=>match bD M a with
    | some (_,ds)=>match Qi ds i with
      | some d=>.ok (.d d) M
      | none=>.ae
    | none=>match a with
      | .d (.str s) => if s.length <= sizeLine then match nq s.cps.toList i with
          | some c=>.ok (.d (.str ⟨#[c]⟩)) M
          | none=>.ae
        else .ae
      | .d (.aC n)=>match M[n]? with
        | some (.dK ao)=>match dN ao (Sum.inl i:bC)with
          | some d=>.ok (.d d) M
          | none=>.ae
        | _=>.ae
      | _=>.ae
  | .d (.str k)=>match a with
    | .d (.aC n)=>match M[n]? with
      | some (.dK ao)=>match (ao.find? λp=>decide (p.1=(Sum.inr k:bC))).map (·.2)with
        | some d=>.ok (.d d) M
        | none=>.ae
      | _=>.ae
    | _=>.ae
  | _=>.ae
def pU(a:W)(lo hi:Option Int)(M:ag):bF W :=
 match bD M a with
 | some (true,ds)=>.ok (.lv (cutD ds lo hi)) M
 | some (false,ds)=>.ok (.d (.tup (cutD ds lo hi))) M
 | none=>.ae
noncomputable def yF(M:ag):W->Option Ty
 | .lv _=>some .list
 | .d .aK=>some .none
 | .d (.bl _)=>some .bool
 | .d (.int _)=>some .int
 | .d (.str _)=>some .str
 | .d (.tup _)=>some .tuple
 | .d (.ls _)=>none
 | .d (.aC n)=>match M[n]? with
  | some (.lst _)=>some .list
  | some (.iZ _)=>some .list
  | some (.dK _)=>some .dict
  | some (.dT _)=>some .dict
  | some (.dF _)=>none
  | some (.xc _ _)=>none
  | none=>none
noncomputable def si:List D->Option (List Bool)
 | []=>some []
 | .bl b::ds=>(si ds).map (b::·)
 | _::_=>none
noncomputable def iK:List D->Option (List Int)
 | []=>some []
 | .int b::ds=>(iK ds).map (b::·)
 | _::_=>none
noncomputable def kT(a b:W)(M:ag):bF W :=
 match a,b with
 | .d (.str x),.d (.str y)=>.ok (.d (.int (Txt.find x y))) M
 | _,_=>.ae
noncomputable def jx{κ:Type}[DecidableEq κ](ao:List (κ×D))(k:κ)(v:D):List (κ×D) :=
 if (ao.any λkv=>decide (kv.1=k))=true then ao.map (λkv=>if kv.1=k then (kv.1,v) else kv) else ao++[(k,v)]
noncomputable def pairD:D->Option (bC×D)
 | .tup [.int i,d]=>some (Sum.inl i,d)
 | .tup [.str x,d]=>some (Sum.inr x,d)
 | _=>none
def NS(aI:List (bC×D)):List D->Option (List (bC×D))
 | []=>some aI
 | d::ds=>match pairD d with
  | some (k,x)=>NS (jx aI k x) ds
  | none=>none
def gI(b:Bi)(ws:List W)(M:ag):bF W :=
 match b,ws with
 | .len,[w]=>match bD M w with
  | some (_,ds)=>.ok (.d (.int ds.length)) M
  | none=>match w with
   | .d (.str x)=>if x.length<=sizeLine then .ok (.d (.int x.length)) M else .ae
   | _=>.ae
 | .all1,[w]=>match bD M w with
  | some (_,ds)=>match si ds with
   | some bs=>.ok (.d (.bl (bs.all id))) M
   | none=>.ae
  | none=>.ae
 | .Ee,[w]=>match bD M w with
  | some (_,ds)=>match si ds with
   | some bs=>.ok (.d (.bl (bs.any id))) M
   | none=>.ae
  | none=>.ae
 | .vT,[w]=>match bD M w with
  | some (true,ds)=>match iK ds with
   | some is=>if is.length<64 then .ok (.lv ((L2.NJ is).map D.int)) M else .ae
   | none=>.ae
  | _=>.ae
 | .min1,[w]=>match bD M w with
  | some (_,ds)=>match iK ds with
   | some (i::is)=>.ok (.d (.int (is.foldl (λa b=>if b<a then b else a) i))) M
   | _=>.ae
  | none=>.ae
 | .Ef,[w]=>match bD M w with
  | some (_,ds)=>match iK ds with
   | some (i::is)=>.ok (.d (.int (is.foldl (λa b=>if a<b then b else a) i))) M
   | _=>.ae
  | none=>.ae
 | .max2,[.d (.int i),.d (.int j)]=>.ok (.d (.int (if j>i then j else i))) M
 | .min2,[.d (.int i),.d (.int j)]=>.ok (.d (.int (if j<i then j else i))) M
 | .mr,[.d (.int i)]=>.ok (.d (.int i)) M
 | .mr,[.d (.bl k)]=>.ok (.d (.int (if k then 1 else 0))) M
 | .list1,[w]=>match bD M w with
  | some (_,ds)=>.ok (.lv ds) M
  | none=>.ae
 | .tuple1,[w]=>match bD M w with
  | some (_,ds)=>.ok (.d (.tup ds)) M
  | none=>.ae
 | .str1,[.d (.int i)]=>if i.natAbs.log2<1920 then .ok (.d (.str (Str.ofString (toString i)))) M else .ae
 | .iI,[w]=>match jw M w with
  | some p=>if p.showable=true/\p.depth<=40/\p.shown.length<=sizeLine then .ok (.d (.str p.shown)) M else .ae
  | none=>.ae
 | .vS,[w]=>match i_ M w with
  | some ao=>.ok (.d (.aC M.length)) (M++[.dK ao])
  | none=>match bD M w with
   | some (true,ds)=>match NS [] ds with
    | some ao=>.ok (.d (.aC M.length)) (M++[.dK ao])
    | none=>.ae
   | _=>.ae
 | .iJ t,[w]=>match yF M w with
  | some g=>.ok (.d (.bl (decide (g=t)||(decide (g=.bool)&&decide (t=.int))))) M
  | none=>.ae
 | _,_=>.ae
noncomputable def ux:List W->Option (Int×Int)
 | [.d (.int i),.d (.int j)]=>some (i,j)
 | [.d (.int j)]=>some (0,j)
 | _=>none
noncomputable def NT(i:Int)(n:Nat):List D:=(List.range n).map λk=>D.int (i+((k:Nat):Int))
noncomputable def AG(tp:Bool)(ds:List D):W:=if tp=true then .d (.tup ds) else .lv ds
def Eh(tp:Bool)(ws:List W)(M:ag):bF W:=match ux ws with
 | some (i,j)=>if (-(2 ^ 62)<=i/\i<2 ^ 62/\-(2 ^ 62)<=j/\j<2 ^ 62)/\(j-i).toNat<=2 ^ 24 then .ok (AG tp (NT i (j-i).toNat)) M else .ae
 | none=>.ae
def uy(m:Me)(o:W)(ws:List D)(M:ag):bF W :=
 match o with
 | .d (.aC n)=>match M[n]? with
  | some (.lst ds)=>match m,ws with
   | .append,[x]=>if ds.length<sizeLine then .ok (.d .aK) (M.set n (.lst (ds++[x]))) else .ae
   | .insert,[.int i,x]=>if ds.length<sizeLine/\0<=i/\i<=ds.length then .ok (.d .aK) (M.set n (.lst (ds.take i.toNat++x::ds.drop i.toNat))) else .ae
   | .reverse,[]=>.ok (.d .aK) (M.set n (.lst ds.reverse))
   | .clear,[]=>.ok (.d .aK) (M.set n (.lst []))
   | .pop,[]=>match ds[ds.length-1]? with
    | some d=>.ok (.d d) (M.set n (.lst ds.dropLast))
    | none=>.ae
   | .extend,[.aC k]=>match M[k]? with
    | some (.lst es)=>if ds.length+es.length<=sizeLine then .ok (.d .aK) (M.set n (.lst (ds++es))) else .ae
    | _=>.ae
   | .extend,[.tup es]=>if ds.length+es.length<=sizeLine then .ok (.d .aK) (M.set n (.lst (ds++es))) else .ae
   | .remove,[.int i]=>match iK ds with
    | some is=>if i∈is then .ok (.d .aK) (M.set n (.lst ((is.erase i).map D.int))) else .ae
    | none=>.ae
   | _,_=>.ae
  | _=>.ae
 | _=>.ae
inductive Z1 where
 | items (ds:List D) | at (n:Nat)
noncomputable def Ei(M:ag):Z1->Option (List D)
 | .items ds=>some ds
 | .at n=>match M[n]? with
  | some (.lst ds)=>some ds
  | some (.iZ ds)=>some ds
  | _=>none
def Vc(M:ag):W->Option Z1
 | .lv ds=>some (.items ds)
 | .d (.tup ds)=>some (.items ds)
 | .d (.ls ds)=>some (.items ds)
 | .d (.aC n)=>if (bD M (.d (.aC n))).isSome then some (.at n) else none
 | _=>none
noncomputable def NU(xs ys:List D)(i:Nat):Option D:=match xs[i]?,ys[i]? with
 | some x,some y=>some (.tup [x,y])
 | _,_=>none
inductive It where
 | at (n:Nat) | items (ds:List D) | jV (lo:Int) (n:Nat) | pV (n:Nat) | gn (ds:List D) | zip (a b:Z1)
def itemAt(M:ag)(i:Nat):It->Option (Option D)
 | .at n=>match M[n]? with
  | some (.lst ds)=>some ds[i]?
  | some (.iZ ds)=>some ds[i]?
  | _=>none
 | .items ds=>some ds[i]?
 | .jV lo n=>some (if i<n then some (.int (lo+i)) else none)
 | .pV n=>match M[n]? with
  | some (.lst ds)=>some (ds[i]?.map λd=>.tup [.int i,d])
  | some (.iZ ds)=>some (ds[i]?.map λd=>.tup [.int i,d])
  | _=>none
 | .gn ds=>some (ds[i]?.map λd=>.tup [.int i,d])
 | .zip a b=>match Ei M a,Ei M b with
  | some xs,some ys=>some (NU xs ys i)
  | _,_=>none
def dv(M:ag):It->Nat
 | .at n=>match M[n]? with
  | some (.lst ds)=>ds.length
  | some (.iZ ds)=>ds.length
  | _=>0
 | .items ds=>ds.length
 | .jV _ n=>n
 | .pV n=>match M[n]? with
  | some (.lst ds)=>ds.length
  | some (.iZ ds)=>ds.length
  | _=>0
 | .gn ds=>ds.length
 | .zip a b=>match Ei M a,Ei M b with
  | some xs,some ys=>min xs.length ys.length
  | _,_=>0
def kD:bC->D
 | .inl i=>.int i
 | .inr x=>.str x
def NV(p:List bC×D):D:=.tup (p.1.map kD)
noncomputable def mw:List D->Option (List bC)
 | []=>some []
 | .int i::ds=>(mw ds).map (Sum.inl i::·)
 | .str x::ds=>(mw ds).map (Sum.inr x::·)
 | _::_=>none
def AH:W->Option (List bC)
 | .d (.tup ds)=>mw ds
 | _=>none
noncomputable def NW(M:ag):W->Option (List (List bC×D))
 | .d (.aC n)=>match M[n]? with
  | some (.dT ao)=>some ao
  | some (.dF ao)=>some ao
  | _=>none
 | _=>none
def iL(ng:Bool)(a b:W)(M:ag):bF W:=match AH a,NW M b with
 | some k,some ao=>.ok (.d (.bl (ng != (dN ao k).isSome))) M
 | _,_=>.ae
def gV(a b:W)(d:D)(M:ag):bF Unit:=match a with
 | .d (.aC n)=>match M[n]?,AH b with
  | some (.dT ao),some k=>if ao.length<sizeLine then .ok () (M.set n (.dT (jx ao k d))) else .ae
  | _,_=>.ae
 | _=>.ae
noncomputable def SO(i:Int)(n:Nat):List D:=(List.range n).map λk=>.int (i-(k:Nat))
noncomputable def dI(s:Str):List D:=s.cps.toList.map λc=>.str ⟨#[c]⟩
def jy(k:SK)(ws:List W)(M:ag):bF It :=
 match k,ws with
 | .seq,[.d (.str s)]=>if (s.cps.all λc=>decide (c<128))=true then .ok (.items (dI s)) M else .ae
 | .seq,[.lv ds]=>.ok (.items ds) M
 | .seq,[.d (.tup ds)]=>.ok (.items ds) M
 | .seq,[.d (.ls ds)]=>.ok (.items ds) M
 | .seq,[.d (.aC n)]=>if (bD M (.d (.aC n))).isSome then .ok (.at n) M else .ae
 | .fb,[.d (.int j)]=>if -(2 ^ 62)<=j/\j<2 ^ 62 then .ok (.jV 0 j.toNat) M else .ae
 | .AF,[.d (.int i),.d (.int j)]=>if -(2 ^ 62)<=i/\i<2 ^ 62/\-(2 ^ 62)<=j/\j<2 ^ 62 then .ok (.jV i (j-i).toNat) M else .ae
 | .enum,[.lv ds]=>.ok (.gn ds) M
 | .enum,[.d (.tup ds)]=>.ok (.gn ds) M
 | .enum,[.d (.ls ds)]=>.ok (.gn ds) M
 | .enum,[.d (.aC n)]=>if (bD M (.d (.aC n))).isSome then .ok (.pV n) M else .ae
 | .Eg,[.d (.int i),.d (.int j),.d (.int k)]=>if k=-1/\-(2 ^ 62)<=i/\i<2 ^ 62/\-(2 ^ 62)<=j/\j<2 ^ 62 then .ok (.items (SO i (i-j).toNat)) M else .ae
 | .keys,[.d (.aC n)]=>match M[n]? with
  | some (.dT ao)=>.ok (.items (ao.map NV)) (M.set n (.dF ao))
  | some (.dF ao)=>.ok (.items (ao.map NV)) M
  | _=>.ae
 | .vals,[.d (.aC n)]=>match M[n]? with
  | some (.dT ao)=>.ok (.items (ao.map (·.2))) (M.set n (.dF ao))
  | some (.dF ao)=>.ok (.items (ao.map (·.2))) M
  | _=>.ae
 | .zip,[u,v]=>match Vc M u,Vc M v with
  | some a,some b=>.ok (.zip a b) M
  | _,_=>.ae
 | _,_=>.ae
noncomputable def dw(tg:List Nat)(ds:List D)(ρ:En):Option En :=
 match tg,ds with
 | [],[]=>some ρ
 | i::tg,d::ds=>dw tg ds (ρ.set i (some d))
 | _,_=>none
def bI(tg:List Nat)(d:D)(ρ:En):Option En :=
 match tg with
 | [i]=>some (ρ.set i (some d))
 | _=>match d with
  | .tup ds=>dw tg ds ρ
  | _=>none
abbrev a9:=Nat->List D->ag->bF W
def eI(cz:List (Option Nat))(ρ:En):En:=cz.map λo=>o.bind λj=>(ρ[j]?).join
def bg(cond:En->ag->bF Bool)(elt:En->ag->bF D)(it:It)(tg:List Nat):Nat->Nat->En->ag->List D->bF W
  | 0,i,_,M,aI=>match itemAt M i it with
    | some none=>.ok (.lv aI) M
    | _=>.ae
  | f+1,i,τ,M,aI=>match itemAt M i it with
    | some none=>.ok (.lv aI) M
    | some (some d)=>match bI tg d τ with
      | none=>.ae
      | some τ => if aI.length < sizeLine then
          (cond τ M).b0 λb M=>if b then (elt τ M).b0 λx M=>bg cond elt it tg f (i+1) τ M (aI++[x]) else bg cond elt it tg f (i+1) τ M aI
        else .ae
    | none=>.ae
noncomputable def vV(ng:Bool)(x:W)(M:ag):bF W:=match x with
 | .d (.bl b)=>.ok (.d (.bl (ng != b))) M
 | _=>.ae
noncomputable def Lk(f:Str)(x:W)(M:ag):bF W:=match x with
 | .d (.aC n)=>match M[n]? with
  | some (.xc _ fs)=>match fs.lookup f with
   | some d=>.ok (.d d) M
   | none=>.ae
  | _=>.ae
 | _=>.ae
noncomputable def yG(tb:List (Addr×Bool))(x:W)(M:ag):bF W:=match x with
 | .d (.aC n)=>match M[n]? with
  | some (.xc C _)=>match tb.lookup C with
   | some b=>.ok (.d (.bl b)) M
   | none=>.ae
  | _=>.ae
 | _=>.ae
mutual
noncomputable def ev(G:a9):C->En->ag->bF W
  | .eO i,ρ,M=>match ρ[i]? with
    | some (some d)=>.ok (.d d) M
    | _=>.ae
  | .aN d,_,M=>.ok (.d d) M
  | .bin op a b,ρ,M=>(ev G a ρ M).bind λx M=>(ev G b ρ M).bind λy M=>pT op x y M
  | .cmp op a b,ρ,M=>(ev G a ρ M).bind λx M=>(ev G b ρ M).bind λy M=>(bp op x y M).bind λr M=>.ok (.d (.bl r)) M
  | .chain o1 o2 a b c, ρ, M => (ev G a ρ M).bind fun x M => (ev G b ρ M).bind fun y M => (bp o1 x y M).bind fun r M =>
      if r then (ev G c ρ M).bind λz M=>(bp o2 y z M).bind λr M=>.ok (.d (.bl r)) M else .ok (.d (.bl false)) M
  | .cw cs,ρ,M=>iM G cs ρ M
  | .bU cs,ρ,M=>nG G cs ρ M
  | .neg a,ρ,M=>(ev G a ρ M).bind λx M=>match x with
    | .d (.bl r)=>.ok (.d (.bl (!r))) M
    | _=>.ae
  | .tup cs,ρ,M=>(a8 G cs ρ M).bind λds M=>if ds.length<=sizeLine then .ok (.d (.tup ds)) M else .ae
  | .lst cs,ρ,M=>(a8 G cs ρ M).bind λds M=>if ds.length<=sizeLine then .ok (.lv ds) M else .ae
  | .sub a b,ρ,M=>(ev G a ρ M).bind λx M=>(ev G b ρ M).bind λy M=>dO x y M
  | .gH a lo hi,ρ,M=>(ev G a ρ M).bind λx M=>(qU G lo ρ M).bind λl M=>(qU G hi ρ M).bind λh M=>pU x l h M
  | .fV a b,ρ,M=>(ev G a ρ M).bind λx M=>match x with
    | .d (.str z)=>(ev G b ρ M).bind λy M=>kT (.d (.str z)) y M
    | _=>.ae
  | .call f cs,ρ,M=>(a8 G cs ρ M).bind λds M=>G f ds M
  | .bi b cs,ρ,M=>(cV G cs ρ M).bind λws M=>gI b ws M
  | .me m o cs,ρ,M=>(ev G o ρ M).bind λx M=>if (dH M x).isSome then (a8 G cs ρ M).bind λds M=>uy m x ds M else .ae
  | .vU ks cs,ρ,M=>(a8 G cs ρ M).bind λds M=>if ks.length=ds.length then .ok (.d (.aC M.length)) (M++[.dK ((ks.map Sum.inr).zip ds)]) else .ae
  | .jV tp cs,ρ,M=>(cV G cs ρ M).bind λws M=>Eh tp ws M
  | .qT _ v,_,M=>.ok (.d (.int v)) M
  | .lx,_,M=>.ok (.d (.aC M.length)) (M++[.dT []])
  | .fW ng a b,ρ,M=>(ev G a ρ M).bind λx M=>(ev G b ρ M).bind λy M=>iL ng x y M
  | .fc ng a,ρ,M=>(ev G a ρ M).bind λx M=>vV ng x M
  | .xf a f,ρ,M=>(ev G a ρ M).bind λx M=>Lk f x M
  | .ow a _ tb,ρ,M=>(ev G a ρ M).bind λx M=>yG tb x M
  | .fX f cs,ρ,M=>(a8 G cs ρ M).bind λds M=>(G f ds M).b0 .ok
  | .comp k cU tg cond elt cz, ρ, M => (cV G cU ρ M).bind fun ws M => (jy k ws M).bind fun it M =>
      bg (λτ M=>bP G cond τ M) (λτ M=>(ev G elt τ M).bind own) it tg (dv M it) 0 (eI cz ρ) M []
noncomputable def dP(G:a9):eh->En->ag->bF Bool
 | .cw ts,ρ,M=>fw G ts ρ M
 | .bU ts,ρ,M=>fy G ts ρ M
 | .neg a,ρ,M=>(dP G a ρ M).bind λr M=>.ok (!r) M
 | .val c,ρ,M=>(ev G c ρ M).bind λw M=>match nE M w with
  | some r=>.ok r M
  | none=>.ae
noncomputable def iM(G:a9):List C->En->ag->bF W
 | [],_,_=>.ae
 | c::cs,ρ,M=>(ev G c ρ M).bind λx M=>match cs,x with
  | [],x=>.ok x M
  | _,.d (.bl true)=>iM G cs ρ M
  | _,.d (.bl false)=>.ok (.d (.bl false)) M
  | _,_=>.ae
noncomputable def nG(G:a9):List C->En->ag->bF W
 | [],_,_=>.ae
 | c::cs,ρ,M=>(ev G c ρ M).bind λx M=>match cs,x with
  | [],x=>.ok x M
  | _,.d (.bl false)=>nG G cs ρ M
  | _,.d (.bl true)=>.ok (.d (.bl true)) M
  | _,_=>.ae
noncomputable def fw(G:a9):List eh->En->ag->bF Bool
 | [],_,_=>.ae
 | c::cs,ρ,M=>(dP G c ρ M).bind λx M=>match cs,x with
  | [],x=>.ok x M
  | _,true=>fw G cs ρ M
  | _,false=>.ok false M
noncomputable def fy(G:a9):List eh->En->ag->bF Bool
 | [],_,_=>.ae
 | c::cs,ρ,M=>(dP G c ρ M).bind λx M=>match cs,x with
  | [],x=>.ok x M
  | _,false=>fy G cs ρ M
  | _,true=>.ok true M
noncomputable def a8(G:a9):List C->En->ag->bF (List D)
 | [],_,M=>.ok [] M
 | c::cs,ρ,M=>((ev G c ρ M).bind own).bind λd M=>(a8 G cs ρ M).bind λds M=>.ok (d::ds) M
noncomputable def cV(G:a9):List C->En->ag->bF (List W)
 | [],_,M=>.ok [] M
 | c::cs,ρ,M=>(ev G c ρ M).bind λd M=>(cV G cs ρ M).bind λds M=>.ok (d::ds) M
noncomputable def qU(G:a9):Option C->En->ag->bF (Option Int)
 | none,_,M=>.ok none M
 | some c,ρ,M=>(ev G c ρ M).bind λw M=>match w with
  | .d (.int i)=>.ok (some i) M
  | _=>.ae
noncomputable def bP(G:a9):Option eh->En->ag->bF Bool
 | none,_,M=>.ok true M
 | some c,ρ,M=>dP G c ρ M
end
section
variable {G:a9} {lo hi:Option C} {cond:Option eh}
theorem AI : ev G (.eO i) ρ M = (match ρ[i]? with
    | some (some d)=>.ok (.d d) M
    | _=>.ae):=rfl
theorem IT:ev G (.aN d) u0 M=.ok (.d d) M:=rfl
theorem IU:ev G (.bin op a b) ρ M=(ev G a ρ M).bind λx M=>(ev G b ρ M).bind λy M=>pT op x y M:=rfl
theorem AJ:ev G (.cmp op a b) ρ M=(ev G a ρ M).bind λx M=>(ev G b ρ M).bind λy M=>(bp op x y M).bind λr M=>.ok (.d (.bl r)) M:=rfl
theorem sj : ev G (.chain o1 o2 a b c) ρ M = ((ev G a ρ M).bind fun x M => (ev G b ρ M).bind fun y M => (bp o1 x y M).bind fun r M =>
      if r then (ev G c ρ M).bind λz M=>(bp o2 y z M).bind λr M=>.ok (.d (.bl r)) M else .ok (.d (.bl false)) M):=rfl
theorem Ej:ev G (.cw cs) ρ M=iM G cs ρ M:=rfl
theorem Ek:ev G (.bU cs) ρ M=nG G cs ρ M:=rfl
theorem IV : ev G (.neg a) ρ M = ((ev G a ρ M).bind fun x M => match x with
    | .d (.bl r)=>.ok (.d (.bl (!r))) M
    | _=>.ae):=rfl
theorem AK:ev G (.tup cs) ρ M=(a8 G cs ρ M).bind λds M=>if ds.length<=sizeLine then .ok (.d (.tup ds)) M else .ae:=rfl
theorem AM:ev G (.lst cs) ρ M=(a8 G cs ρ M).bind λds M=>if ds.length<=sizeLine then .ok (.lv ds) M else .ae:=rfl
theorem IW:ev G (.sub a b) ρ M=(ev G a ρ M).bind λx M=>(ev G b ρ M).bind λy M=>dO x y M:=rfl
theorem IY:ev G (.gH a lo hi) ρ M=(ev G a ρ M).bind λx M=>(qU G lo ρ M).bind λl M=>(qU G hi ρ M).bind λh M=>pU x l h M:=rfl
theorem so : ev G (.fV a b) ρ M = ((ev G a ρ M).bind fun x M => match x with
    | .d (.str z)=>(ev G b ρ M).bind λy M=>kT (.d (.str z)) y M
    | _=>.ae):=rfl
theorem vW:ev G (.call f cs) ρ M=(a8 G cs ρ M).bind λds M=>G f ds M:=rfl
theorem AN:ev G (.bi b cs) ρ M=(cV G cs ρ M).bind λws M=>gI b ws M:=rfl
theorem AO:ev G (.me m o cs) ρ M=(ev G o ρ M).bind λx M=>if (dH M x).isSome then (a8 G cs ρ M).bind λds M=>uy m x ds M else .ae:=rfl
theorem uz:ev G (.vU ks cs) ρ M=(a8 G cs ρ M).bind λds M=>if ks.length=ds.length then .ok (.d (.aC M.length)) (M++[.dK ((ks.map Sum.inr).zip ds)]) else .ae:=rfl
theorem IZ:ev G (.jV tp cs) ρ M=(cV G cs ρ M).bind λws M=>Eh tp ws M:=rfl
theorem I0:ev G (.qT u0 v) u1 M=.ok (.d (.int v)) M:=rfl
theorem El:ev G (.lx) u0 M=.ok (.d (.aC M.length)) (M++[.dT []]):=rfl
theorem vX:ev G (.fW ng a b) ρ M=(ev G a ρ M).bind λx M=>(ev G b ρ M).bind λy M=>iL ng x y M:=rfl
theorem vY:ev G (.fc ng a) ρ M=(ev G a ρ M).bind λx M=>vV ng x M:=rfl
theorem NX{f:Str}:ev G (.xf a f) ρ M=(ev G a ρ M).bind λx M=>Lk f x M:=rfl
theorem I_{k:IX}{tb:List (Addr×Bool)}:ev G (.ow a k tb) ρ M=(ev G a ρ M).bind λx M=>yG tb x M:=rfl
theorem su:ev G (.fX f cs) ρ M=(a8 G cs ρ M).bind λds M=>(G f ds M).b0 .ok:=rfl
theorem pW : ev G (.comp k cU tg cond elt cz) ρ M = ((cV G cU ρ M).bind fun ws M => (jy k ws M).bind fun it M =>
      bg (λτ M=>bP G cond τ M) (λτ M=>(ev G elt τ M).bind own) it tg (dv M it) 0 (eI cz ρ) M []):=rfl
theorem AQ:dP G (.cw ts) ρ M=fw G ts ρ M:=rfl
theorem AR:dP G (.bU ts) ρ M=fy G ts ρ M:=rfl
theorem Em:dP G (.neg a) ρ M=(dP G a ρ M).bind λr M=>.ok (!r) M:=rfl
theorem pX : dP G (.val c) ρ M = ((ev G c ρ M).bind fun w M => match nE M w with
    | some r=>.ok r M
    | none=>.ae):=rfl
theorem kj:iM G [] u0 u1=.ae:=rfl
theorem ja : iM G (c :: cs) ρ M = ((ev G c ρ M).bind fun x M => match cs, x with
    | [],x=>.ok x M
    | _,.d (.bl true)=>iM G cs ρ M
    | _,.d (.bl false)=>.ok (.d (.bl false)) M
    | _,_=>.ae):=rfl
theorem mx:nG G [] u0 u1=.ae:=rfl
theorem km : nG G (c :: cs) ρ M = ((ev G c ρ M).bind fun x M => match cs, x with
    | [],x=>.ok x M
    | _,.d (.bl false)=>nG G cs ρ M
    | _,.d (.bl true)=>.ok (.d (.bl true)) M
    | _,_=>.ae):=rfl
theorem ko:fw G [] u0 u1=.ae:=rfl
theorem jb : fw G (c :: cs) ρ M = ((dP G c ρ M).bind fun x M => match cs, x with
    | [],x=>.ok x M
    | _,true=>fw G cs ρ M
    | _,false=>.ok false M):=rfl
theorem kr:fy G [] u0 u1=.ae:=rfl
theorem jc : fy G (c :: cs) ρ M = ((dP G c ρ M).bind fun x M => match cs, x with
    | [],x=>.ok x M
    | _,false=>fy G cs ρ M
    | _,true=>.ok true M):=rfl
theorem fY:a8 G [] u0 M=.ok [] M:=rfl
theorem eT:a8 G (c::cs) ρ M=((ev G c ρ M).bind own).bind λd M=>(a8 G cs ρ M).bind λds M=>.ok (d::ds) M:=rfl
theorem gW:cV G [] u0 M=.ok [] M:=rfl
theorem fZ:cV G (c::cs) ρ M=(ev G c ρ M).bind λd M=>(cV G cs ρ M).bind λds M=>.ok (d::ds) M:=rfl
theorem my:qU G none u0 M=.ok none M:=rfl
theorem mz : qU G (some c) ρ M = ((ev G c ρ M).bind fun w M => match w with
    | .d (.int i)=>.ok (some i) M
    | _=>.ae):=rfl
end
section
variable [EX]
def Eo(K:PySem.W.Frag)(ads:List Addr)(lO H:Hp):W->V->Prop
 | .d x,v=>RD K ads H x v
 | .lv ds,v=>∃a xs,v=.ref a/\lO a=none/\H a=some (.lst xs)/\a∉ads/\aT K ads H ds xs
def kU(K:PySem.W.Frag)(ads:List Addr)(H:Hp)(w:W)(M':ag)(Q:VK):Prop :=
 ∀v H' ax,ay ads ax H H'->aD K ax H' M'->Eo K ax H H' w v->Q v H'
def Ja(K:PySem.W.Frag)(ads:List Addr)(H:Hp)(ds:List D)(M':ag)(Q:List V->Hp->Prop):Prop :=
 ∀vs H' ax,ay ads ax H H'->aD K ax H' M'->aT K ax H' ds vs->Q vs H'
def NY(K:PySem.W.Frag)(ads:List Addr)(H:Hp)(b:Bool)(M':ag)(Q:Bool->Hp->Prop):Prop :=
 ∀H' ax,ay ads ax H H'->aD K ax H' M'->Q b H'
def bQ(K:PySem.W.Frag)(ads:List Addr)(H:Hp)(Q:VK):bF W->Prop
 | .ok w M=>kU K ads H w M Q
 | .err x M=>EX.post K ads H x M
 | .ae=>False
def sv(K:PySem.W.Frag)(ads:List Addr)(H:Hp)(Q:List V->Hp->Prop):bF (List D)->Prop
 | .ok w M=>Ja K ads H w M Q
 | .err x M=>EX.post K ads H x M
 | .ae=>False
def CP(K:PySem.W.Frag)(ads:List Addr)(H:Hp)(Q:Bool->Hp->Prop):bF Bool->Prop
 | .ok w M=>NY K ads H w M Q
 | .err x M=>EX.post K ads H x M
 | .ae=>False
structure SR (K:PySem.W.Frag) (ads:List Addr) (M:ag) (ρ:En) (σ:L2.St) (H:Hp):Prop where
 mem:aD K ads H M
 en:NP K ads H ρ σ
 ln:ρ.length=σ.length
def tE(K:PySem.W.Frag)(o:En->ag->bF W):TE:=λσ H Q=>∃ads M ρ,SR K ads M ρ σ H/\bQ K ads H Q (o ρ M)
def zd(K:PySem.W.Frag)(o:En->ag->bF (List D)):TA:=λσ H Q=>∃ads M ρ,SR K ads M ρ σ H/\sv K ads H Q (o ρ M)
def mC(K:PySem.W.Frag)(o:En->ag->bF Bool):TT:=λσ H Q=>∃ads M ρ,SR K ads M ρ σ H/\CP K ads H Q (o ρ M)
section
variable {K:PySem.W.Frag} {ads ax aM:List Addr} {H H' H2:Hp} {M M2:ag} {ρ:En} {σ:L2.St}
theorem Eo.rw{lO:Hp}{w:W}{v:V}(h:Eo K ads lO H w v):RW K ads H w v:=by
 cases w with
 | d x=>exact h
 | lv ds=>obtain⟨a,xs,e,_,h1,n,r⟩:=h;exact⟨a,xs,e,h1,n,r⟩
theorem SR.grow(s:SR K ads M ρ σ H)(g:ay ads ax H H')(m:aD K ax H' M2):SR K ax M2 ρ σ H':=⟨m,g.Vb s.en,s.ln⟩
theorem yH(g:ay ads ax H H')(m:aD K ads H M)(m':aD K ax H' M2){a:Addr}(h:H' a=none):H a=none:=by
 by_cases hb:a∈ads
 ·have:a∈ax:=by obtain⟨r,e⟩:=g.pre;rw[e];exact oS _ hb
  exact absurd this (m'.fresh h)
 ·cases q:H a with
  | none=>rfl
  | some o=>rw[g.kept a o hb q]at h;cases h
theorem Eo.back{w:W}{v:V}(g:ay ads ax H H')(m:aD K ads H M)(m':aD K ax H' M2)(h:Eo K aM H' H2 w v):Eo K aM H H2 w v:=by
 cases w with
 | d x=>exact h
 | lv ds=>obtain⟨a,xs,e,h0,h1,n,r⟩:=h;exact⟨a,xs,e,yH g m m' h0,h1,n,r⟩
theorem kU.shift{w:W}{Mw:ag}{Q:VK}(p:kU K ads H w Mw Q)(g:ay ads ax H H')(m:aD K ads H M)(m':aD K ax H' M2):kU K ax H' w Mw Q :=
 λv H1 ah g1 m1 r=>p v H1 ah (g.trans g1) m1 (r.back g m m')
theorem bQ.shift{o:bF W}{Q:VK}(p:bQ K ads H Q o)(g:ay ads ax H H')(m:aD K ads H M)(m':aD K ax H' M2):bQ K ax H' Q o:=by
 cases o with
 | ok w Mw=>exact kU.shift p g m m'
 | err _ _=>exact EX.shift p g
 | ae=>exact p
theorem CP.shift{o:bF Bool}{Q:Bool->Hp->Prop}(p:CP K ads H Q o)(g:ay ads ax H H'):CP K ax H' Q o:=by
 cases o with
 | ok w Mw=>exact λH1 ah g1 m1=>p H1 ah (g.trans g1) m1
 | err _ _=>exact EX.shift p g
 | ae=>exact p
theorem bQ.imp{e1 e2:EX}(im:∀{K:PySem.W.Frag}{ads:List Addr}{H:Hp}{x:tQ}{M:ag},e1.post K ads H x M->e2.post K ads H x M){o:bF W}{Q:VK}(p:@bQ e1 K ads H Q o):@bQ e2 K ads H Q o:=by
 cases o with
 | ok w Mw=>exact p
 | err _ _=>exact im p
 | ae=>exact p
theorem cN{o:En->ag->bF W}{k:W->ag->bF W}{Q:VK}{R:V->Hp->Prop}(s:SR K ads M ρ σ H)(h:bQ K ads H Q ((o ρ M).bind k))(hk:∀w M1 v H1 ah,SR K ah M1 ρ σ H1->RW K ah H1 w v->bQ K ah H1 Q (k w M1)->R v H1):tE K o σ H R:=by
 refine⟨ads,M,ρ,s,?_⟩
 cases q:o ρ M with
 | ok w M1 =>
  rw[q]at h;have h:bQ K ads H Q (k w M1):=h;exact λv H1 ah g1 m1 r=>hk w M1 v H1 ah (s.grow g1 m1) r.rw (h.shift g1 s.mem m1)
 | err _ _=>rw[q]at h;exact h
 | ae=>rw[q]at h;exact h
theorem two{oa ob:En->ag->bF W}{f:W->W->ag->bF W}{r:R2}{Q:VK}(hr:∀ {ads M H x y vx vy Q},aD K ads H M->RW K ads H x vx->RW K ads H y vy->bQ K ads H Q (f x y M)->r vx vy H Q)(h:tE K (λρ M=>(oa ρ M).bind λx M=>(ob ρ M).bind λy M=>f x y M) σ H Q):CL r (tE K oa) (tE K ob) σ H Q:=by
 obtain⟨ads,M,ρ,s,h⟩:=h;refine cN s h λw M1 v H1 ah s1 kg h1=>?_;refine⟨ah,M1,ρ,s1,?_⟩
 cases q:ob ρ M1 with
 | ok y M2 =>
  rw[q]at h1;have h1:bQ K ah H1 Q (f w y M2):=h1;exact λvy H2 aM g2 m2 ry=>hr m2 (g2.rw kg) ry.rw (h1.shift g2 s1.mem m2)
 | err _ _=>rw[q]at h1;exact h1
 | ae=>rw[q]at h1;exact h1
theorem bQ.plain{Q:VK}{x:D}{v:V}(h:bQ K ads H Q (.ok (.d x) M))(m:aD K ads H M)(r:RD K ads H x v):Q v H:=h v H ads (ay.refl _ _) m r
theorem bQ.list{Q:VK}{ds:List D}{xs:List V}(h:bQ K ads H Q (.ok (.lv ds) M))(m:aD K ads H M)(r:aT K ads H ds xs){p:Addr}(hp:H p=none):Q (.ref p) (a_ H p (.lst xs)) :=
 h _ _ ads (ay.dM m hp) (m.dM hp) ⟨p,xs,rfl,hp,aB,m.fresh hp,(ay.dM m hp).nD _ _ r⟩
theorem bQ.tuple{Q:VK}{ds:List D}{xs:List V}(h:bQ K ads H Q (.ok (.d (.tup ds)) M))(m:aD K ads H M)(r:aT K ads H ds xs){p:Addr}(hp:H p=none):Q (.ref p) (a_ H p (.tup xs)):=by
 refine h _ _ ads (ay.dM m hp) (m.dM hp) ?_;show RD _ _ _ (.tup ds) _;unfold RD;exact⟨p,xs,rfl,aB,(ay.dM m hp).nD _ _ r⟩
theorem eD{w:W}{v:V}{l:Bool}{ds:List D}(m:aD K ads H M)(r:RW K ads H w v)(e:bD M w=some (l,ds)):∃a xs,v=.ref a/\aT K ads H ds xs/\((l=true/\fv K H a xs)\/(l=false/\fS K H a xs)):=by
 cases w with
 | lv es =>
  simp only[bD,qW,zB]at e;obtain⟨rfl,rfl⟩:=e;obtain⟨a,xs,e,h,n,r⟩:=r;exact⟨a,xs,e,r,.inl ⟨rfl,fv.of h⟩⟩
 | d x =>
  cases x with
  | tup es =>
   simp only[bD,qW,zB]at e;obtain⟨rfl,rfl⟩:=e;have r:RD K ads H (.tup es) v:=r;unfold RD at r;obtain⟨a,xs,e,h,r⟩:=r;exact⟨a,xs,e,r,.inr ⟨rfl,fS.of h⟩⟩
  | ls es =>
   simp only[bD,qW,zB]at e;obtain⟨rfl,rfl⟩:=e;have r:RD K ads H (.ls es) v:=r;unfold RD at r;obtain⟨a,xs,e,h,r⟩:=r;exact⟨a,xs,e,r,.inl ⟨rfl,h.sq⟩⟩
  | aC n =>
   have r:RD K ads H (.aC n) v:=r;unfold RD at r;obtain⟨a,ev,ea⟩:=r;unfold bD at e;dsimp only at e
   cases q:M[n]? with
   | none=>rw[q]at e;cases e
   | some o =>
    rw[q]at e;have ho:=m.obj n o a q ea
    cases o with
    | lst es=>cases e;obtain⟨xs,h,r⟩:=ho;exact⟨a,xs,ev,r,.inl ⟨rfl,fv.of h⟩⟩
    | iZ es=>cases e;obtain⟨o,xs,h,r⟩:=ho;exact⟨a,xs,ev,r,.inl ⟨rfl,.inl (.inr ⟨o,h⟩)⟩⟩
    | dK _=>cases e
    | dT _=>cases e
    | dF _=>cases e
    | xc _ _=>cases e
  | aK=>cases e
  | bl _=>cases e
  | int _=>cases e
  | str _=>cases e
theorem mE{w:W}{v:V}{ds:List D}(m:aD K ads H M)(r:RW K ads H w v)(e:dH M w=some ds):∃a xs,v=.ref a/\aT K ads H ds xs/\H a=some (.lst xs):=by
 cases w with
 | lv es =>
  simp only[dH,qW]at e;subst e;obtain⟨a,xs,e,h,n,r⟩:=r;exact⟨a,xs,e,r,h⟩
 | d x =>
  cases x with
  | aC n =>
   have r:RD K ads H (.aC n) v:=r;unfold RD at r;obtain⟨a,ev,ea⟩:=r;simp only[dH]at e
   cases q:M[n]? with
   | none=>rw[q]at e;cases e
   | some o =>
    rw[q]at e;have ho:=m.obj n o a q ea
    cases o with
    | lst es=>cases e;obtain⟨xs,h,r⟩:=ho;exact⟨a,xs,ev,r,h⟩
    | iZ es=>cases e
    | dK _=>cases e
    | dT _=>cases e
    | dF _=>cases e
    | xc _ _=>cases e
  | tup _=>cases e
  | ls _=>cases e
  | aK=>cases e
  | bl _=>cases e
  | int _=>cases e
  | str _=>cases e
theorem aV{i:Int}{v:V}(r:RW K ads H (.d (.int i)) v):v=.int i:=by
 have r:RD K ads H (.int i) v:=r;unfold RD at r;exact r
theorem dy{i:Str}{v:V}(r:RW K ads H (.d (.str i)) v):v=.str i:=by
 have r:RD K ads H (.str i) v:=r;unfold RD at r;exact r
theorem iN{i:Bool}{v:V}(r:RW K ads H (.d (.bl i)) v):v=.bl i:=by
 have r:RD K ads H (.bl i) v:=r;unfold RD at r;exact r
theorem mF{v:V}(r:RW K ads H (.d .aK) v):v=.aK:=by
 have r:RD K ads H .aK v:=r;unfold RD at r;exact r
theorem cB(i:Int):RD K ads H (.int i) (.int i):=by unfold RD;rfl
theorem gC(i:Bool):RD K ads H (.bl i) (.bl i):=by unfold RD;rfl
theorem pY(i:Str):RD K ads H (.str i) (.str i):=by unfold RD;rfl
theorem ku:RD K ads H .aK .aK:=by unfold RD;rfl
end
section
variable {X:Cx}
def SQ(K:PySem.W.Frag)(op:CO):R2:=λx y H Q=>∃ads M wx wy,aD K ads H M/\RW K ads H wx x/\RW K ads H wy y/\bQ K ads H Q (pT op wx wy M)
noncomputable def Ep:CO->Operator
 | .add=>.Add | .sub=>.Sub | .mul=>.Mult | .fdiv=>.FloorDiv | .mod=>.Mod | .pow=>.Pow
theorem Es:ik X (binaryOp .Add) (λx y H Q=>∃a b ys,x=.ref a/\y=.ref b/\fS X.K H a []/\fS X.K H b ys/\Q (.ref b) H):=by
 intro aa s σ H x y v u Q I rx ry h;obtain⟨a,b,ys,rfl,rfl,ha,hb,q⟩:=h;cases rx;cases ry;obtain⟨aA,r1,p1,_⟩:=I.tuple ha;obtain⟨Ab,r2,p2,_⟩:=I.tuple hb;cases r1;obtain⟨⟨cls,dd,data,sl⟩,ho,hc,n,hd⟩:=id p1;obtain⟨⟨RO,P6,data2,P7⟩,Iq,Gd,n2,MX⟩:=id p2;simp only at hc hd Gd MX;subst hc hd Gd MX
 exact concat_meets ⟨_,ho,rfl⟩ ⟨_,Iq,rfl⟩ noFill_tuple_add seq_tuple_add Hf He (Hd _ _)
  (tuple_addW0 a b _ Ab.toArray n n2 dd P6 sl P7 rfl) ⟨ho,Iq,⟨.ref b,H,I,rfl,q⟩⟩
theorem aT.rep{K:PySem.W.Frag}{ads:List Addr}{H:Hp}{ds:List D}{vs:List V}(r:aT K ads H ds vs):∀k:Nat,aT K ads H (List.replicate k ds).flatten (List.replicate k vs).flatten
 | 0=>by simp;unfold aT;rfl
 | k+1=>by simp only[xC,zp];exact r.app (aT.rep r k)
theorem Jb(op:CO):ik X (binaryOp (Ep op)) (SQ X.K op):=by
 intro aa s σ H x y v u Q I rx ry h;obtain⟨ads,M,wx,wy,m,r1,r2,h⟩:=h
 have NZ:∀ {op},op=CO.add->bQ X.K ads H Q (match dH M wx,dH M wy with
  | some xs,some ys=>if xs.length+ys.length<=sizeLine then .ok (.lv (xs++ys)) M else .ae
  | _,_=>.ae)->wpAny (model X.prog X.w) X.A (binaryOp (Ep op) v u) (EP X aa σ Q) X.xe s:=by
  intro op e h;subst e
  cases q1:dH M wx with
  | none=>rw[q1]at h;exact h.elim
  | some xs =>
   cases q2:dH M wy with
   | none=>rw[q1,q2]at h;exact h.elim
   | some ys =>
    rw[q1,q2]at h;dsimp only at h;split at h
    ·rename_i hz
     obtain⟨a,vs,e1,ra,ha⟩:=mE m r1 q1;obtain⟨b,ws,e2,rb,hb⟩:=mE m r2 q2;subst e1 e2;refine IB aa s σ H _ _ v u Q I rx ry ⟨a,b,vs,ws,rfl,rfl,ha,hb,by rw[<- ra.len,<- rb.len];exact hz,λp hp=>h.list m (ra.app rb) hp⟩
    ·exact h.elim
 unfold pT at h;split at h
 ·rw[aV r1]at rx;rw[aV r2]at ry;exact HY aa s σ H _ _ v u Q I rx ry ⟨_,_,rfl,rfl,h.plain m (cB _)⟩
 ·rw[aV r1]at rx;rw[aV r2]at ry;exact HZ aa s σ H _ _ v u Q I rx ry ⟨_,_,rfl,rfl,h.plain m (cB _)⟩
 ·rw[aV r1]at rx;rw[aV r2]at ry;split at h
  ·rename_i hc
   exact H_ aa s σ H _ _ v u Q I rx ry ⟨_,_,rfl,rfl,hc,h.plain m (cB _)⟩
  ·exact h.elim
 ·rw[aV r1]at rx;rw[aV r2]at ry;split at h
  ·rename_i hc
   exact DC aa s σ H _ _ v u Q I rx ry ⟨_,_,rfl,rfl,hc,h.plain m (cB _)⟩
  ·exact h.elim
 ·rw[aV r1]at rx;rw[aV r2]at ry;split at h
  ·rename_i hc
   exact Ia aa s σ H _ _ v u Q I rx ry ⟨_,_,rfl,rfl,hc,h.plain m (cB _)⟩
  ·exact h.elim
 ·rw[aV r1]at rx;rw[aV r2]at ry;split at h
  ·rename_i hc
   exact Ib aa s σ H _ _ v u Q I rx ry ⟨_,_,rfl,rfl,hc,h.plain m (cB _)⟩
  ·exact h.elim
 ·rename_i xs ys
  split at h
  ·rename_i hc
   have r1:RD X.K ads H (.tup xs) x:=r1;have r2:RD X.K ads H (.tup ys) y:=r2;unfold RD at r1 r2;obtain⟨a,vs,e1,ha,ra⟩:=r1;obtain⟨b,ws,e2,hb,rb⟩:=r2;subst e1 e2;by_cases SS:vs=[]
   ·have ex:xs=[]:=List.eq_nil_of_length_eq_zero (by rw[ra.len,SS];rfl);subst ex SS;refine Es aa s σ H _ _ v u Q I rx ry ⟨a,b,ws,rfl,rfl,fS.of ha,fS.of hb,bQ.plain (x:=.tup ys) h m ?_⟩;unfold RD;exact⟨b,ws,rfl,hb,rb⟩
   refine DP aa s σ H _ _ v u Q I rx ry ⟨a,b,vs,ws,rfl,rfl,fS.of ha,fS.of hb,SS,by rw[<- ra.len,<- rb.len];exact hc,λz=>?_,λ_ p hp=>h.tuple m (ra.app rb) hp⟩;have ey:ys=[]:=List.eq_nil_of_length_eq_zero (by rw[rb.len,z];rfl);subst ey;rw[qZ]at h;refine h.plain m ?_;unfold RD;exact⟨a,vs,rfl,ha,ra⟩
  ·exact h.elim
 ·exact NZ rfl h
 ·rename_i xs k
  split at h
  ·rename_i hc
   have r1:RD X.K ads H (.tup xs) x:=r1;unfold RD at r1;obtain⟨a,vs,e1,ha,ra⟩:=r1;subst e1;rw[aV r2]at ry;refine Eb aa s σ H _ _ v u Q I rx ry ⟨a,k,vs,rfl,rfl,ha,hc.1,hc.2.1,by rw[<- ra.len];exact hc.2.2,λz=>h.plain m ?_,λp hp=>h.tuple m (aT.rep ra k.toNat) hp⟩;unfold RD;exact⟨a,vs,rfl,ha,by have:=aT.rep ra k.toNat;rw[z]at this;exact this⟩
  ·exact h.elim
 ·rename_i k _ _
  cases q1:dH M wx with
  | none=>rw[q1]at h;exact h.elim
  | some xs =>
   rw[q1]at h;dsimp only at h;split at h
   ·rename_i hz
    obtain⟨a,vs,e1,ra,ha⟩:=mE m r1 q1;subst e1;rw[aV r2]at ry;refine IC aa s σ H _ _ v u Q I rx ry ⟨a,k,vs,rfl,rfl,ha,hz.1,hz.2.1,by rw[<- ra.len];exact hz.2.2,λp hp=>h.list m (aT.rep ra k.toNat) hp⟩
   ·exact h.elim
 ·exact h.elim
end
end
section
variable [EX]
section
variable {X:Cx} {aa:List (Addr×Obj)} {σ:L2.St} {H:Hp} {s:Shared} {ads:List Addr} {M:ag}
theorem cO(I:Inv X aa σ H s)(n:Nat)(hA:∀d v u p,RD X.K ads H d v->RelV v u->cL M n d=some p->∃as,Reads s.heap u p as):∀(ds:List D)(vs:List V)(us:List Value)(ps:List PyData),aT X.K ads H ds vs->aO vs us->bj M n ds=some ps->∃as,ReadsAll s.heap us ps as
 | [],vs,us,ps,r,rv,e=>by
  unfold aT at r;subst r;cases rv;unfold bj at e;cases e;exact⟨[],.nil⟩
 | d::ds,vs,us,ps,r,rv,e=>by
  unfold aT at r;obtain⟨x,r',rfl,h1,h2⟩:=r
  cases rv with
  | cons rx rr =>
   unfold bj at e
   cases q1:cL M n d with
   | none=>rw[q1]at e;cases e
   | some p =>
    cases q2:bj M n ds with
    | none=>rw[q1,q2]at e;cases e
    | some qs =>
     rw[q1,q2]at e;cases e;obtain⟨as,k1⟩:=hA d x _ p h1 rx q1;obtain⟨bs,k2⟩:=cO I n hA ds r' _ qs h2 rr q2;exact⟨as++bs,.cons k1 k2⟩
theorem fz(I:Inv X aa σ H s)(m:aD X.K ads H M):∀(n:Nat)(d:D)(v:V)(u:Value)(p:PyData),RD X.K ads H d v->RelV v u->cL M n d=some p->∃as,Reads s.heap u p as:=by
 intro n
 induction n with
 | zero =>
  intro d v u p r rv e
  cases d with
  | aK=>unfold RD at r;subst r;cases rv;unfold cL at e;cases e;exact⟨_,.none⟩
  | bl b=>unfold RD at r;subst r;cases rv;unfold cL at e;cases e;exact⟨_,.bool _⟩
  | int b=>unfold RD at r;subst r;obtain⟨t,rfl⟩:=rv;unfold cL at e;cases e;exact⟨_,.int _ _⟩
  | str b=>unfold RD at r;subst r;obtain⟨t,rfl⟩:=rv;unfold cL at e;cases e;exact⟨_,.str _ _⟩
  | tup _=>unfold cL at e;cases e
  | aC _=>unfold cL at e;cases e
  | ls _=>unfold cL at e;cases e
 | succ n ih =>
  intro d v u p r rv e
  cases d with
  | aK=>unfold RD at r;subst r;cases rv;unfold cL at e;cases e;exact⟨_,.none⟩
  | bl b=>unfold RD at r;subst r;cases rv;unfold cL at e;cases e;exact⟨_,.bool _⟩
  | int b=>unfold RD at r;subst r;obtain⟨t,rfl⟩:=rv;unfold cL at e;cases e;exact⟨_,.int _ _⟩
  | str b=>unfold RD at r;subst r;obtain⟨t,rfl⟩:=rv;unfold cL at e;cases e;exact⟨_,.str _ _⟩
  | tup ds =>
   unfold RD at r;obtain⟨a,xs,rfl,hs,r⟩:=r;cases rv;unfold cL at e
   cases q:bj M n ds with
   | none=>rw[q]at e;cases e
   | some ps =>
    rw[q]at e;cases e;obtain⟨aA,rv,⟨o,h1,h2,k,h3⟩,_⟩:=I.tuple (fS.of (K:=X.K) hs);obtain⟨as,ra⟩:=cO I n ih ds xs aA ps r rv q;exact⟨as,.tuple h1 h2 h3 (by simpa using ra)⟩
  | ls ds =>
   unfold RD at r;obtain⟨a,xs,rfl,hs,r⟩:=r;cases rv;unfold cL at e
   cases q:bj M n ds with
   | none=>rw[q]at e;cases e
   | some ps =>
    rw[q]at e;cases e;obtain⟨aA,rv,⟨o,kk,h1,h2,h3,h4⟩,_⟩:=I.list hs.sq;obtain⟨as,ra⟩:=cO I n ih ds xs aA ps r rv q;exact⟨a::as,.list h1 h2 h4 (by simpa using ra)⟩
  | aC k =>
   unfold RD at r;obtain⟨a,rfl,ea⟩:=r;cases rv;unfold cL at e
   have lst:∀ds,fv X.K H a ds->∀es,aT X.K ads H es ds->(bj M n es).map PyData.list=some p->∃as,Reads s.heap (.ref a) p as:=by
    intro xs hs es r e
    cases q:bj M n es with
    | none=>rw[q]at e;cases e
    | some ps =>
     rw[q]at e;cases e;obtain⟨aA,rv,⟨o,kk,h1,h2,h3,h4⟩,_⟩:=I.list hs;obtain⟨as,ra⟩:=cO I n ih es xs aA ps r rv q;exact⟨a::as,.list h1 h2 h4 (by simpa using ra)⟩
   cases q:M[k]? with
   | none=>rw[q]at e;cases e
   | some o =>
    rw[q]at e;have ho:=m.obj k o a q ea
    cases o with
    | lst es=>obtain⟨xs,h,r⟩:=ho;exact lst xs (fv.of h) es r e
    | iZ es=>obtain⟨o,xs,h,r⟩:=ho;exact lst xs (.inl (.inr ⟨o,h⟩)) es r e
    | dK _=>cases e
    | dT _=>cases e
    | dF _=>cases e
    | xc _ _=>cases e
theorem gp(I:Inv X aa σ H s)(m:aD X.K ads H M){w:W}{v:V}{u:Value}{p:PyData}(r:RW X.K ads H w v)(rv:RelV v u)(e:jw M w=some p):∃as,Reads s.heap u p as:=by
 cases w with
 | d x=>exact fz I m 30 x v u p r rv e
 | lv ds =>
  obtain⟨a,xs,rfl,h,n,r⟩:=r;cases rv;have e:(bj M 30 ds).map PyData.list=some p:=e
  cases q:bj M 30 ds with
  | none=>rw[q]at e;cases e
  | some ps =>
   rw[q]at e;cases e;obtain⟨aA,rv,⟨o,kk,h1,h2,h3,h4⟩,_⟩:=I.list (fv.of (K:=X.K) h);obtain⟨as,ra⟩:=cO I 30 (fz I m 30) ds xs aA ps r rv q;exact⟨a::as,.list h1 h2 h4 (by simpa using ra)⟩
end
section
variable {K:PySem.W.Frag} {ads:List Addr} {H:Hp}
theorem bN.find{κ:Type}[DecidableEq κ]{k:κ}:∀{ao:List (κ×D)}{ks:List (κ×V)}{d:D},bN K ads H ao ks->(ao.find? λp=>decide (p.1=k)).map (·.2)=some d->∃v,jn ks k=some v/\RD K ads H d v
 | [],_,_,_,e=>by cases e
 | p::ps,ks,d,r,e=>by
  unfold bN at r;obtain⟨x,r',rfl,h0,h1,h2⟩:=r;by_cases hk:p.1=k
  ·have e':p.2=d:=by simpa[j3,hk]using e
   subst e';exact⟨x.2,jo (h0▸hk),h1⟩
  ·obtain⟨v,e1,rv⟩:=bN.find h2 (by simpa[j3,hk]using e);exact⟨v,(gS (h0▸hk)).trans e1,rv⟩
theorem bN.len{κ:Type}:∀{ao:List (κ×D)}{ks:List (κ×V)},bN K ads H ao ks->ao.length=ks.length
 | [],_,r=>by unfold bN at r;subst r;rfl
 | p::ps,ks,r=>by unfold bN at r;obtain⟨x,r',rfl,h0,h1,h2⟩:=r;simp[bN.len h2]
theorem bN.vZ{κ:Type}[DecidableEq κ]{k:κ}:∀{ao:List (κ×D)}{ks:List (κ×V)},bN K ads H ao ks->dN ao k=none->jn ks k=none
 | [],_,r,_=>by unfold bN at r;subst r;rfl
 | p::ps,ks,r,e=>by
  unfold bN at r;obtain⟨x,r',rfl,h0,h1,h2⟩:=r;by_cases hk:p.1=k
  ·unfold dN at e;simp[j3,hk]at e
  ·exact(gS (h0▸hk)).trans (bN.vZ h2 (by unfold dN at e⊢;simpa[j3,hk]using e))
end
section
variable {X:Cx} {aa:List (Addr×Obj)} {σ:L2.St} {H:Hp} {s:Shared} {ads:List Addr} {M:ag}
theorem pZ{w:W}{v:V}{ao:List (bC×D)}{K:PySem.W.Frag}(m:aD K ads H M)(r:RW K ads H w v)(e:i_ M w=some ao):∃a ks,v=.ref a/\H a=some (.dK ks)/\bN K ads H ao ks:=by
 cases w with
 | lv es=>cases e
 | d x =>
  cases x with
  | aC n =>
   have r:RD K ads H (.aC n) v:=r;unfold RD at r;obtain⟨a,ev,ea⟩:=r;simp only[i_]at e
   cases q:M[n]? with
   | none=>rw[q]at e;cases e
   | some o =>
    rw[q]at e;have ho:=m.obj n o a q ea
    cases o with
    | lst es=>cases e
    | iZ es=>cases e
    | dK _=>cases e;obtain⟨ks,h,r⟩:=ho;exact⟨a,ks,ev,h,r⟩
    | dT _=>cases e
    | dF _=>cases e
    | xc _ _=>cases e
  | tup _=>cases e
  | ls _=>cases e
  | aK=>cases e
  | bl _=>cases e
  | int _=>cases e
  | str _=>cases e
theorem AS{w:W}{v:V}{k:bC}{K:PySem.W.Frag}(r:RW K ads H w v)(e:uv w=some k):v=kV k:=by
 cases w with
 | lv es=>cases e
 | d x =>
  cases x with
  | int i=>cases e;exact aV r
  | str i=>cases e;exact dy r
  | aC _=>cases e
  | tup _=>cases e
  | ls _=>cases e
  | aK=>cases e
  | bl _=>cases e
theorem v3{K:PySem.W.Frag}{ao:List (bC×D)}{ks:List (bC×V)}{a:Addr}{k:bC}(ha:H a=some (.dK ks))(r:bN K ads H ao ks):∃o,jq H a (kV k) o/\o.isSome=(dN ao k).isSome:=by
 refine⟨_,jq.k (k:=k) ha,?_⟩
 cases q:dN ao k with
 | none=>rw[r.vZ q];rfl
 | some d=>obtain⟨v,e,_⟩:=r.find q;rw[e];rfl
theorem v5(I:Inv X aa σ H s)(m:aD X.K ads H M)(hu:X.A.units+100<cLine){kb:List (bC×D)}{SU:List (bC×V)}{Qj:List (bC×Value)}(rb:bN X.K ads H kb SU)(vb:KV SU Qj):∀{ka:List (bC×D)}{N0:List (bC×V)}{Ll:List (bC×Value)}{r:Bool},bN X.K ads H ka N0->KV N0 Ll->uw M kb ka=some r->PySem.W.KeqHits X.A.in1 s Qj Ll r
 | [],N0,Ll,r,ra,va,e=>by
  unfold bN at ra;subst ra;cases va;cases e;exact .nil
 | (k,d)::ka,N0,Ll,r,ra,va,e=>by
  unfold bN at ra;obtain⟨x,r',rfl,h0,h1,h2⟩:=ra;obtain⟨x1,x2⟩:=x;have h0:k=x1:=h0;subst h0;have h1:RD X.K ads H d x2:=h1
  cases va with
  | cons hp hr =>
   rename_i q vr
   obtain⟨q1,q2⟩:=q;obtain⟨e1,e2⟩:=hp;have e1:k=q1:=e1;subst e1;have e2:RelV x2 q2:=e2;have hv:=vb.val k;simp only[uw]at e
   cases hg:dN kb k with
   | none =>
    rw[hg]at e;cases e;rw[rb.vZ hg]at hv;exact .miss (iT.none_of hv)
   | some y =>
    rw[hg]at e;dsimp only at e;obtain⟨v',SV,WU⟩:=rb.find hg;rw[SV]at hv;obtain⟨u',eu,ru⟩:=iT.pz hv
    cases p1:cL M 30 d with
    | none=>rw[p1]at e;cases e
    | some p =>
     cases p2:cL M 30 y with
     | none=>rw[p1,p2]at e;cases e
     | some p' =>
      rw[p1,p2]at e;dsimp only at e;split at e
      ·rename_i hs
       cases Qk:uw M kb ka with
       | none=>rw[Qk]at e;cases e
       | some b =>
        rw[Qk]at e;have e:(PyData.eqv p p'&&b)=r:=cu e;subst e;obtain⟨as,WV⟩:=fz I m 30 d x2 q2 p h1 e2 p1;obtain⟨bs,WX⟩:=fz I m 30 y v' u' p' WU ru p2;exact .hit eu (PySem.W.keq_at WV WX hs.1 hs.2 (by show X.A.units+1+64<cLine;omega)) (v5 I m hu rb vb h2 hr Qk)
      ·cases e
end
noncomputable def Jc:yE->CmpOp
 | .eq=>.Eq | .ne=>.NotEq | .lt=>.Lt | .le=>.LtE | .gt=>.Gt | .ge=>.GtE | .mq=>.Is | .gF=>.IsNot | .isin=>.In | .gB=>.NotIn
def Et(K:PySem.W.Frag)(ads:List Addr)(H:Hp)(Q:VK):bF Bool->Prop
 | .ok b M=>∀H' ax,ay ads ax H H'->aD K ax H' M->Q (.bl b) H'
 | .err x M=>EX.post K ads H x M
 | .ae=>False
def Eu(K:PySem.W.Frag)(op:yE):R2:=λx y H Q=>∃ads M wx wy,aD K ads H M/\RW K ads H wx x/\RW K ads H wy y/\((op=.mq\/op=.gF)->y=.aK)/\Et K ads H Q (bp op wx wy M)
theorem Et.now{K:PySem.W.Frag}{ads:List Addr}{H:Hp}{Q:VK}{b:Bool}{M:ag}(h:Et K ads H Q (.ok b M))(m:aD K ads H M):Q (.bl b) H:=h H ads (ay.refl _ _) m
section
variable {X:Cx}
open Classical in
noncomputable def sx(h:Heap)(p:PyData)(y:Value):Bool:=decide (∃q' Lm,Reads h y q' Lm/\PyData.eqv q' p=true)
open Classical in
theorem sy{h:Heap}{p q:PyData}{y:Value}{cs:List Addr}(ry:Reads h y q cs):sx h p y=PyData.eqv q p:=by
 unfold sx
 cases hb:PyData.eqv q p with
 | true=>exact bB ⟨q,cs,ry,hb⟩
 | false =>
  refine bx ?_;rintro⟨q',Lm,WY,N1⟩;obtain⟨e,_⟩:=PyProof.Rows.reads_det (λ_ _ e _=>e) ry WY;rw[<- e,N1]at hb;cases hb
theorem AU{s:Shared}{A:Around}{x:Value}{p:PyData}{as:List Addr}(rx:Reads s.heap x p as)(hx:SeqAt.shaped p=true)(hu:A.units+65<cLine):∀{us:List Value}{qs:List PyData}{bs:List Addr},ReadsAll s.heap us qs bs->qs.all SeqAt.shaped=true->(∀y∈us,SeqAt.EqAt A.in1 s y x (sx s.heap p y))/\us.any (sx s.heap p)=gm p qs
 | _,_,_,.nil,_=>⟨(λy hy=>by cases hy),rfl⟩
 | _,_,_,.cons (v:=v) (d:=q) ry rr,hq=>by
  rw[t5,av]at hq;have N1:=hq;obtain⟨k1,k2⟩:=AU rx hx hu rr N1.2;have e0:=SeqAt.eqAt_reads q p A.in1 s v x _ _ ry rx (SeqAt.canLay_of_shaped N1.1) (SeqAt.canLay_of_shaped hx) (SeqAt.room_of_shaped N1.1 (by show A.units+1+64<cLine;omega));rw[<- sy ry]at e0;refine⟨λy hy=>?_,?_⟩
  ·rcases cq.mp hy with z | z
   ·subst z;exact e0
   ·exact k1 y z
  ·rw[xQ,k2,sy ry];rfl
theorem lD{s:Shared}{A:Around}{x:Value}{p:PyData}{as:List Addr}(rx:Reads s.heap x p as)(hx:SeqAt.shaped p=true)(hu:A.units+65<cLine){us:List Value}{qs:List PyData}{bs:List Addr}(r:ReadsAll s.heap us qs bs)(hq:qs.all SeqAt.shaped=true):∃e:Value->Bool,(∀y∈us,SeqAt.EqAt A.in1 s y x (e y))/\us.any e=gm p qs :=
 ⟨sx s.heap p,AU rx hx hu r hq⟩
theorem yI:ik X (compareOp .LtE) (λx y H Q=>∃i j,x=.str i/\y=.str j/\Q (.bl (!decide (j.cps.toList<i.cps.toList))) H):=by
 intro aa s σ H x y v u Q I rx ry h;obtain⟨i,j,rfl,rfl,q⟩:=h;obtain⟨t,rfl⟩:=rx;obtain⟨t',rfl⟩:=ry;exact PySem.P.le_str ⟨.bl _,H,I,rfl,q⟩
theorem kx(hu:X.A.units+100<cLine)(op:yE):ik X (compareOp (Jc op)) (Eu X.K op):=by
 intro aa s σ H x y v u Q I rx ry h;obtain⟨ads,M,wx,wy,m,r1,r2,hn,h⟩:=h;unfold bp at h
 cases op with
 | eq =>
  dsimp only at h
  have Gj:Et X.K ads H Q (match i_ M wx,i_ M wy with
   | some ka,some kb=>match uw M kb ka with
    | some r=>.ok (ka.length==kb.length&&r) M
    | none=>.ae
   | _,_=>.ae)->wpAny (model X.prog X.w) X.A (compareOp .Eq v u) (EP X aa σ Q) X.xe s:=by
   intro h
   cases q1:i_ M wx with
   | none=>rw[q1]at h;exact h.elim
   | some ka =>
    cases q2:i_ M wy with
    | none=>rw[q1,q2]at h;exact h.elim
    | some kb =>
     rw[q1,q2]at h;dsimp only at h
     cases q3:uw M kb ka with
     | none=>rw[q3]at h;exact h.elim
     | some r =>
      rw[q3]at h;dsimp only at h;obtain⟨a,N0,rfl,ha,ra⟩:=pZ m r1 q1;obtain⟨b,SU,rfl,hb,rb⟩:=pZ m r2 q2;cases rx;cases ry;obtain⟨za,WZ,Ll,va,W0⟩:=vG I.bc ha;obtain⟨zb,yj,Qj,vb,W2⟩:=vG I.bc hb;refine PySem.W.keq_eq WZ yj W0 W2 ∅ (λ_=>v5 I m hu rb vb ra va q3) ⟨.bl _,H,I,rfl,?_⟩;have e1:Ll.length=ka.length:=by rw[<- va.length,ra.len]
      have e2:Qj.length=kb.length:=by rw[<- vb.length,rb.len]
      rw[e1,e2];exact h.now m
  cases q1:jw M wx with
  | none=>rw[q1]at h;exact Gj h
  | some p =>
   cases q2:jw M wy with
   | none=>rw[q1,q2]at h;exact Gj h
   | some q =>
    rw[q1,q2]at h;dsimp only at h;split at h
    ·rename_i hs
     obtain⟨as,ra⟩:=gp I m r1 rx q1;obtain⟨bs,rb⟩:=gp I m r2 ry q2;exact SeqAt.compareEq_shaped ra rb hs.1 hs.2 ∅ ⟨.bl _,H,I,rfl,h.now m⟩
    ·exact h.elim
 | ne =>
  dsimp only at h
  cases q1:jw M wx with
  | none=>rw[q1]at h;exact h.elim
  | some p =>
   cases q2:jw M wy with
   | none=>rw[q1,q2]at h;exact h.elim
   | some q =>
    rw[q1,q2]at h;dsimp only at h;split at h
    ·rename_i hs
     obtain⟨as,ra⟩:=gp I m r1 rx q1;obtain⟨bs,rb⟩:=gp I m r2 ry q2;exact SeqAt.compareNe_shaped ra rb hs.1 hs.2 ∅ ⟨.bl _,H,I,rfl,h.now m⟩
    ·exact h.elim
 | lt =>
  dsimp only at h;split at h
  ·rw[aV r1]at rx;rw[aV r2]at ry;exact MJ aa s σ H _ _ v u Q I rx ry ⟨_,_,rfl,rfl,h.now m⟩
  ·rw[dy r1]at rx;rw[dy r2]at ry;exact yd aa s σ H _ _ v u Q I rx ry ⟨_,_,rfl,rfl,h.now m⟩
  ·exact h.elim
 | le =>
  dsimp only at h;split at h
  ·rw[aV r1]at rx;rw[aV r2]at ry;exact MK aa s σ H _ _ v u Q I rx ry ⟨_,_,rfl,rfl,h.now m⟩
  ·rw[dy r1]at rx;rw[dy r2]at ry;exact yI aa s σ H _ _ v u Q I rx ry ⟨_,_,rfl,rfl,h.now m⟩
  ·exact h.elim
 | gt =>
  dsimp only at h;split at h
  ·rw[aV r1]at rx;rw[aV r2]at ry;exact ML aa s σ H _ _ v u Q I rx ry ⟨_,_,rfl,rfl,h.now m⟩
  ·exact h.elim
 | ge =>
  dsimp only at h;split at h
  ·rw[aV r1]at rx;rw[aV r2]at ry;exact MM aa s σ H _ _ v u Q I rx ry ⟨_,_,rfl,rfl,h.now m⟩
  ·exact h.elim
 | mq =>
  have e:=hn (.inl rfl)
  have hx:∀b,bp .mq wx wy M=.ok b M->b=decide (x=.aK):=by
   intro b e;unfold bp at e;dsimp only at e;split at e
   ·cases e;rw[mF r1];rfl
   ·rename_i mZ
    cases e;refine(bx ?_).symm;intro z;subst z
    cases wx with
    | lv ds=>obtain⟨a,xs,e,_⟩:=r1;cases e
    | d z=>cases z with
     | aK=>exact mZ rfl
     | bl b=>have:=iN r1;cases this
     | int b=>have:=aV r1;cases this
     | str b=>have:=dy r1;cases this
     | tup b=>have r1:RD X.K ads H (.tup b) .aK:=r1;unfold RD at r1;obtain⟨a,xs,e,_⟩:=r1;cases e
     | aC b=>have r1:RD X.K ads H (.aC b) .aK:=r1;unfold RD at r1;obtain⟨a,e,_⟩:=r1;cases e
     | ls b=>have r1:RD X.K ads H (.ls b) .aK:=r1;unfold RD at r1;obtain⟨a,xs,e,_⟩:=r1;cases e
  subst e;have:∃b,bp .mq wx wy M=.ok b M:=by unfold bp;dsimp only;split<;>exact⟨_,rfl⟩
  obtain⟨b,hb⟩:=this;have h:Et X.K ads H Q (bp .mq wx wy M):=h;rw[hb]at h;refine Ie aa s σ H _ _ v u Q I rx ry ⟨rfl,?_⟩;rw[<- hx b hb];exact h.now m
 | gF =>
  have e:=hn (.inr rfl)
  have hx:∀b,bp .gF wx wy M=.ok b M->b=!decide (x=.aK):=by
   intro b e;unfold bp at e;dsimp only at e;split at e
   ·cases e;rw[mF r1];rfl
   ·rename_i mZ
    cases e
    have:decide (x=.aK)=false:=by
     refine bx ?_;intro z;subst z
     cases wx with
     | lv ds=>obtain⟨a,xs,e,_⟩:=r1;cases e
     | d z=>cases z with
      | aK=>exact mZ rfl
      | bl b=>have:=iN r1;cases this
      | int b=>have:=aV r1;cases this
      | str b=>have:=dy r1;cases this
      | tup b=>have r1:RD X.K ads H (.tup b) .aK:=r1;unfold RD at r1;obtain⟨a,xs,e,_⟩:=r1;cases e
      | aC b=>have r1:RD X.K ads H (.aC b) .aK:=r1;unfold RD at r1;obtain⟨a,e,_⟩:=r1;cases e
      | ls b=>have r1:RD X.K ads H (.ls b) .aK:=r1;unfold RD at r1;obtain⟨a,xs,e,_⟩:=r1;cases e
    rw[this];rfl
  subst e;have:∃b,bp .gF wx wy M=.ok b M:=by unfold bp;dsimp only;split<;>exact⟨_,rfl⟩
  obtain⟨b,hb⟩:=this;have h:Et X.K ads H Q (bp .gF wx wy M):=h;rw[hb]at h;refine DD aa s σ H _ _ v u Q I rx ry ⟨rfl,?_⟩;rw[<- hx b hb];exact h.now m
 | isin =>
  dsimp only at h
  cases q2:bD M wy with
  | none =>
   rw[q2]at h
   have h:Et X.K ads H Q (match uv wx,i_ M wy with
    | some k,some ao=>.ok ((dN ao k).isSome) M
    | _,_=>.ae):=by cases hp:jw M wx<;>rw[hp]at h<;>exact h
   cases q3:uv wx with
   | none=>rw[q3]at h;exact h.elim
   | some k =>
    cases q4:i_ M wy with
    | none=>rw[q3,q4]at h;exact h.elim
    | some ao =>
     rw[q3,q4]at h;have ek:=AS r1 q3;subst ek;obtain⟨a,ks,rfl,ha,ra⟩:=pZ m r2 q4;cases ry;obtain⟨o,g,eo⟩:=v3 (k:=k) ha ra;refine MV ∅ I g rx λs' I'=>⟨.bl _,H,I',rfl,?_⟩;rw[eo];exact h.now m
  | some SW =>
   cases q1:jw M wx with
   | none=>rw[q1,q2]at h;exact h.elim
   | some p =>
    obtain⟨l,ds⟩:=SW;rw[q1,q2]at h;dsimp only at h
    cases q3:bj M 30 ds with
    | none=>rw[q3]at h;exact h.elim
    | some qs =>
     rw[q3]at h;dsimp only at h;split at h
     ·rename_i hs
      obtain⟨as,ra⟩:=gp I m r1 rx q1;obtain⟨a,xs,ea,rd,sq⟩:=eD m r2 q2;subst ea;cases ry;rcases sq with⟨_,sq⟩|⟨_,sq⟩
      ·obtain⟨aA,rv,pl,_⟩:=I.list sq;obtain⟨bs,rb⟩:=cO I 30 (fz I m 30) ds xs aA qs rd rv q3;obtain⟨e,he,uA⟩:=lD (A:=X.A) ra hs.1 ∅ rb hs.2;refine SeqAt.in_listAt e pl.isList (λy hy=>he y (by simpa using hy)) ⟨.bl _,H,I,rfl,?_⟩;have:aA.toArray.any e=gm p qs:=by rw[<- uA];simp
       rw[this];exact h.now m
      ·obtain⟨aA,rv,pl,_⟩:=I.tuple sq;obtain⟨bs,rb⟩:=cO I 30 (fz I m 30) ds xs aA qs rd rv q3;obtain⟨e,he,uA⟩:=lD (A:=X.A) ra hs.1 ∅ rb hs.2;refine SeqAt.in_tupleAt e (show s.heap.IsTuple a aA.toArray from pl) (λy hy=>he y (by simpa using hy)) ⟨.bl _,H,I,rfl,?_⟩;have:aA.toArray.any e=gm p qs:=by rw[<- uA];simp
       rw[this];exact h.now m
     ·exact h.elim
 | gB =>
  dsimp only at h
  cases q2:bD M wy with
  | none =>
   rw[q2]at h
   have h:Et X.K ads H Q (match uv wx,i_ M wy with
    | some k,some ao=>.ok (!(dN ao k).isSome) M
    | _,_=>.ae):=by cases hp:jw M wx<;>rw[hp]at h<;>exact h
   cases q3:uv wx with
   | none=>rw[q3]at h;exact h.elim
   | some k =>
    cases q4:i_ M wy with
    | none=>rw[q3,q4]at h;exact h.elim
    | some ao =>
     rw[q3,q4]at h;have ek:=AS r1 q3;subst ek;obtain⟨a,ks,rfl,ha,ra⟩:=pZ m r2 q4;cases ry;obtain⟨o,g,eo⟩:=v3 (k:=k) ha ra;refine vH ∅ I g rx λs' I'=>⟨.bl _,H,I',rfl,?_⟩;rw[eo];exact h.now m
  | some SW =>
   cases q1:jw M wx with
   | none=>rw[q1,q2]at h;exact h.elim
   | some p =>
    obtain⟨l,ds⟩:=SW;rw[q1,q2]at h;dsimp only at h
    cases q3:bj M 30 ds with
    | none=>rw[q3]at h;exact h.elim
    | some qs =>
     rw[q3]at h;dsimp only at h;split at h
     ·rename_i hs
      obtain⟨as,ra⟩:=gp I m r1 rx q1;obtain⟨a,xs,ea,rd,sq⟩:=eD m r2 q2;subst ea;cases ry;rcases sq with⟨_,sq⟩|⟨_,sq⟩
      ·obtain⟨aA,rv,pl,_⟩:=I.list sq;obtain⟨bs,rb⟩:=cO I 30 (fz I m 30) ds xs aA qs rd rv q3;obtain⟨e,he,uA⟩:=lD (A:=X.A) ra hs.1 ∅ rb hs.2;refine SeqAt.notIn_listAt e pl.isList (λy hy=>he y (by simpa using hy)) ⟨.bl _,H,I,rfl,?_⟩;have:aA.toArray.any e=gm p qs:=by rw[<- uA];simp
       rw[this];exact h.now m
      ·obtain⟨aA,rv,pl,_⟩:=I.tuple sq;obtain⟨bs,rb⟩:=cO I 30 (fz I m 30) ds xs aA qs rd rv q3;obtain⟨e,he,uA⟩:=lD (A:=X.A) ra hs.1 ∅ rb hs.2;refine SeqAt.notIn_tupleAt e (show s.heap.IsTuple a aA.toArray from pl) (λy hy=>he y (by simpa using hy)) ⟨.bl _,H,I,rfl,?_⟩;have:aA.toArray.any e=gm p qs:=by rw[<- uA];simp
       rw[this];exact h.now m
     ·exact h.elim
end
end
section
variable [EX]
section
variable {K:PySem.W.Frag} {ads:List Addr} {H:Hp} {M:ag}
theorem N2{w:W}{v:V}{k:Bool}(m:aD K ads H M)(r:RW K ads H w v)(e:nE M w=some k):zV K v H k:=by
 have seq:∀w,RW K ads H w v->((bD M w).map λp=>!p.2.isEmpty)=some k->zV K v H k:=by
  intro w r e
  cases q:bD M w with
  | none=>rw[q]at e;cases e
  | some p =>
   obtain⟨l,ds⟩:=p;rw[q]at e;have e:(!ds.isEmpty)=k:=cu e;obtain⟨a,xs,rfl,rd,sq⟩:=eD m r q;have hl:=rd.len
   have ex:k=!xs.isEmpty:=by
    rw[<- e];cases ds<;>cases xs<;>simp_all
   rcases sq with⟨_,sq⟩|⟨_,sq⟩
   ·exact .inl ⟨xs,sq,ex⟩
   ·exact .inr (.inl ⟨xs,sq,ex⟩)
 cases w with
 | lv ds=>exact seq _ r e
 | d x =>
  cases x with
  | aK=>rw[mF r];exact(cu e).symm
  | bl b=>rw[iN r];exact(cu e).symm
  | int i=>rw[aV r];exact(cu e).symm
  | str s=>exact seq _ r e
  | tup ds=>exact seq _ r e
  | aC n=>exact seq _ r e
  | ls n=>exact seq _ r e
theorem aT.nq{ds:List D}{xs:List V}{i:Int}{d:D}(r:aT K ads H ds xs)(e:L2.nq ds i=some d):∃v,L2.nq xs i=some v/\RD K ads H d v:=by
 unfold L2.nq at e⊢;rw[<- r.len]
 cases q:DQ ds.length i with
 | none=>rw[q]at e;cases e
 | some j=>rw[q]at e;exact r.get e
theorem aT.cut{ds:List D}{xs:List V}{lo hi:Option Int}(r:aT K ads H ds xs):aT K ads H (cutD ds lo hi) (rN xs lo hi):=by
 unfold cutD rN;rw[<- r.len];exact(r.drop _).take _
theorem bN.any{κ:Type}[DecidableEq κ]{k:κ}:∀{ao:List (κ×D)}{ks:List (κ×V)},bN K ads H ao ks->(ao.any λkv=>decide (kv.1=k))=(ks.any λkv=>decide (kv.1=k))
 | [],_,r=>by unfold bN at r;subst r;rfl
 | p::ps,ks,r=>by unfold bN at r;obtain⟨x,r',rfl,h0,h1,h2⟩:=r;simp[bN.any h2,h0]
theorem bN.map{κ:Type}[DecidableEq κ]{k:κ}{d:D}{v:V}(rd:RD K ads H d v):∀{ao:List (κ×D)}{ks:List (κ×V)},bN K ads H ao ks->bN K ads H (ao.map λkv=>if kv.1=k then (kv.1,d) else kv) (ks.map λkv=>if kv.1=k then (kv.1,v) else kv)
 | [],_,r=>by unfold bN at r;subst r;simp;unfold bN;rfl
 | p::ps,ks,r=>by
  unfold bN at r;obtain⟨x,r',rfl,h0,h1,h2⟩:=r;simp only[iC];unfold bN;refine⟨_,_,rfl,?_,?_,bN.map rd h2⟩
  ·rw[h0];split<;>first | rfl | exact h0
  ·rw[h0];split<;>first | exact rd | exact h1
theorem bN.app{κ:Type}:∀{ao es:List (κ×D)}{ks fs:List (κ×V)},bN K ads H ao ks->bN K ads H es fs->bN K ads H (ao++es) (ks++fs)
 | [],_,_,_,r,q=>by unfold bN at r;subst r;exact q
 | p::ps,es,ks,fs,r,q=>by
  unfold bN at r;obtain⟨x,r',rfl,h0,h1,h2⟩:=r;show bN K ads H (p::(ps++es)) (x::(r'++fs));unfold bN;exact⟨x,_,rfl,h0,h1,bN.app h2 q⟩
theorem bN.put{κ:Type}[DecidableEq κ]{k:κ}{d:D}{v:V}{ao:List (κ×D)}{ks:List (κ×V)}(r:bN K ads H ao ks)(rd:RD K ads H d v):bN K ads H (jx ao k d) (eM ks k v):=by
 unfold jx eM;rw[r.any (k:=k)];split
 ·exact bN.map rd r
 ·refine r.app ?_;unfold bN;exact⟨_,[],rfl,rfl,rd,by unfold bN;rfl⟩
end
section
variable {X:Cx} {M':ag}
def MQ(K:PySem.W.Frag):R2:=λx y H Q=>∃ads M wx wy,aD K ads H M/\RW K ads H wx x/\RW K ads H wy y/\bQ K ads H Q (dO wx wy M)
theorem Jd(hu:X.A.units+1<cLine):Nb X (MQ X.K):=by
 intro value jt aa s σ H x y v u Q I rx ry h hs;obtain⟨ads,M,wx,wy,m,r1,r2,h⟩:=h;unfold dO at h;split at h
 ·rename_i i
  have ey:=aV r2;subst ey
  cases q:bD M wx with
  | some p =>
   obtain⟨l,ds⟩:=p;rw[q]at h;dsimp only at h
   cases q2:Qi ds i with
   | none=>rw[q2]at h;exact h.elim
   | some d =>
    rw[q2]at h;obtain⟨a,xs,rfl,rd,sq⟩:=eD m r1 q;obtain⟨z,e2,rz⟩:=rd.nq q2;rcases sq with⟨_,sq⟩|⟨_,sq⟩
    ·exact DR value jt aa s σ H _ _ v u Q I rx ry ⟨a,xs,i,z,rfl,rfl,sq,e2,h.plain m rz⟩ hs
    ·exact Iw value jt aa s σ H _ _ v u Q I rx ry ⟨a,xs,i,z,rfl,rfl,sq,e2,h.plain m rz⟩ hs
  | none =>
   rw[q]at h;dsimp only at h;split at h
   ·split at h
    ·rename_i z hz
     have ex:=dy r1;subst ex
     cases q2:L2.nq z.cps.toList i with
     | none=>rw[q2]at h;exact h.elim
     | some c =>
      rw[q2]at h;exact Iy value jt aa s σ H _ _ v u Q I rx ry ⟨_,i,c,rfl,rfl,hz,q2,h.plain m (pY _)⟩ hs
    ·exact h.elim
   ·rename_i n
    have r1:RD X.K ads H (.aC n) x:=r1;unfold RD at r1;obtain⟨a,rfl,ea⟩:=r1;split at h
    ·rename_i ao q
     obtain⟨ks,hk,rk⟩:=m.obj n _ a q ea;split at h
     ·rename_i d q2
      obtain⟨z,e2,rz⟩:=rk.find (k:=Sum.inl i) q2;cases rx;have g:jq H a (kV (Sum.inl i)) (some z):=by have:=jq.k (k:=Sum.inl i) hk;rw[e2]at this;exact this
      exact tail_any (kQ I g) F.slot_dict_getitem.lookup (nZ hu I g ry λw' s' I' ym=>⟨z,H,I',ym,h.plain m rz⟩) hs
     ·exact h.elim
    ·exact h.elim
   ·exact h.elim
 ·rename_i k
  have ey:=dy r2;subst ey;split at h
  ·rename_i n
   have r1:RD X.K ads H (.aC n) x:=r1;unfold RD at r1;obtain⟨a,rfl,ea⟩:=r1;split at h
   ·rename_i ao q
    obtain⟨ks,hk,rk⟩:=m.obj n _ a q ea;split at h
    ·rename_i d q2
     obtain⟨z,e2,rz⟩:=rk.find (k:=Sum.inr k) q2;cases rx;have g:jq H a (kV (Sum.inr k)) (some z):=by have:=jq.k (k:=Sum.inr k) hk;rw[e2]at this;exact this
     exact tail_any (kQ I g) F.slot_dict_getitem.lookup (nZ hu I g ry λw' s' I' ym=>⟨z,H,I',ym,h.plain m rz⟩) hs
    ·exact h.elim
   ·exact h.elim
  ·exact h.elim
 ·exact h.elim
def SX(K:PySem.W.Frag):V->Option Int->Option Int->Hp->VK->Prop:=λx lo hi H Q=>∃ads M wx,aD K ads H M/\RW K ads H wx x/\bQ K ads H Q (pU wx lo hi M)
theorem Je:M_ X (SX X.K):=by
 intro aa s σ H x v vl vu lo hi sl Q I rx hs pl pu h;obtain⟨ads,M,wx,m,r1,h⟩:=h;unfold pU at h;split at h
 ·rename_i ds q
  obtain⟨a,xs,rfl,rd,sq⟩:=eD m r1 q;rcases sq with⟨_,sq⟩|⟨e,_⟩
  ·exact DS aa s σ H _ v vl vu lo hi sl Q I rx hs pl pu ⟨a,xs,rfl,sq,λp hp=>h.list m rd.cut hp⟩
  ·cases e
 ·rename_i ds q
  obtain⟨a,xs,rfl,rd,sq⟩:=eD m r1 q;rcases sq with⟨e,_⟩|⟨_,sq⟩
  ·cases e
  ·by_cases hw:HT.cE ds.length 0 lo=0/\HT.cE ds.length ds.length hi=ds.length
   ·have e:cutD ds lo hi=ds:=by
     unfold cutD;rw[hw.1,hw.2,List.drop_zero,Nat.sub_zero,xM]
    rw[e]at h;refine Ec aa s σ H _ v vl vu lo hi sl Q I rx hs pl pu ⟨a,xs,rfl,sq,by rw[<- rd.len];exact hw,h.plain m ?_⟩;rcases wx with d | l
    ·cases d with
     | tup es=>cases q;exact r1
     | aC n =>
      unfold bD at q
      try dsimp only at q
      split at q<;>cases q
     | _=>cases q
    ·cases q
   ·refine Iv aa s σ H _ v vl vu lo hi sl Q I rx hs pl pu ⟨a,xs,rfl,sq,by rw[<- rd.len];exact hw,λp hp=>h.tuple m rd.cut hp⟩
 ·exact h.elim
theorem bQ.SY{K:PySem.W.Frag}{ads:List Addr}{H:Hp}{Q:VK}{M:ag}{ao:List (bC×D)}{ks:List (bC×V)}{p:Addr}(q:bQ K ads H Q (.ok (.d (.aC M.length)) (M++[.dK ao])))(m:aD K ads H M)(hp:H p=none)(r:bN K ads H ao ks):Q (.ref p) (a_ H p (.dK ks)):=by
 have pn:=m.fresh hp;have g0:ay ads ads H (a_ H p (.dK ks)):=ay.dM m hp;have m1:aD K ads (a_ H p (.dK ks)) M:=m.dM hp;have m2:=m1.push (o:=.dK ao) pn ⟨_,aB,g0.zc _ _ r⟩;refine q (.ref p) _ (ads++[p]) ⟨⟨[p],rfl⟩,λb hb nb=>?_,g0.kept,g0.fQ,g0.gA⟩ m2 ?_
 ·rcases gO.mp hb with z | z
  ·exact absurd z nb
  ·have:b=p:=by simpa using z
   subst this;exact hp
 ·show RD K (ads++[p]) (a_ H p (.dK ks)) (.aC M.length) (.ref p);unfold RD;exact⟨p,rfl,by rw[m9 (by rw[m.len];exact ar _)];simp[m.len]⟩
def Ew(K:PySem.W.Frag)(ads:List Addr)(H:Hp):List W->List V->Prop
 | [],vs=>vs=[]
 | w::ws,vs=>∃v r,vs=v::r/\RW K ads H w v/\Ew K ads H ws r
def AV(K:PySem.W.Frag)(b:Bi):List V->Hp->VK->Prop:=λvs H Q=>∃ads M ws,aD K ads H M/\Ew K ads H ws vs/\bQ K ads H Q (gI b ws M)
theorem Ew.one{K:PySem.W.Frag}{ads:List Addr}{H:Hp}{w:W}{vs:List V}(r:Ew K ads H [w] vs):∃v,vs=[v]/\RW K ads H w v:=by
 obtain⟨v,r,rfl,h,h2⟩:=r;have h2:r=[]:=h2;subst h2;exact⟨v,rfl,h⟩
theorem Ew.two{K:PySem.W.Frag}{ads:List Addr}{H:Hp}{w w2:W}{vs:List V}(r:Ew K ads H [w,w2] vs):∃v v2,vs=[v,v2]/\RW K ads H w v/\RW K ads H w2 v2:=by
 obtain⟨v,r,rfl,h,h2⟩:=r;obtain⟨v2,rfl,h3⟩:=Ew.one h2;exact⟨v,v2,rfl,h,h3⟩
theorem Jf:dt X (.builtin "len") (AV X.K .len):=by
 intro aa s σ H xs us Q I r h;obtain⟨ads,M,ws,m,rw,h⟩:=h;rcases ws with _|⟨w,_|⟨w2,ws⟩⟩
 ·exact h.elim
 ·obtain⟨v,rfl,rv⟩:=rw.one;unfold gI at h;dsimp only at h;split at h
  ·rename_i l ds q
   obtain⟨a,ys,rfl,rd,sq⟩:=eD m rv q;refine pH aa s σ H _ us Q I r ⟨a,ys,rfl,?_,by rw[<- rd.len];exact h.plain m (cB _)⟩;rcases sq with⟨_,sq⟩|⟨_,sq⟩
   ·exact .inl sq
   ·exact .inr sq
  ·split at h
   ·split at h
    ·rename_i hz
     have e1:=dy rv;subst e1;exact pI aa s σ H _ us Q I r ⟨_,rfl,hz,h.plain m (cB _)⟩
    ·exact h.elim
   ·exact h.elim
 ·exact h.elim
theorem oy {aa : List (Addr × Obj)} {σ : L2.St} {H : Hp} {s : Shared} {a : Addr} {xs : List V} {A : Around} (hh : A.handled = none) (I : Inv X aa σ H s) (sq : fv X.K H a xs \/ fS X.K H a xs) {Q : Value -> Shared -> Prop} {E : Value -> Shared -> Prop}
    (q:∀(aA:List Value)(I1:Addr)(fp wr:List Addr)(St:Nat->Heap->Prop)(s2:Shared),aO xs aA->Walks X.prog X.w A I1 fp wr aA.length (λi v=>aA[i]?=some v) St->St 0 s2.heap->(∀b∈fp,b<s2.heap.objs.size) ->
      (∀h' tk,(∀b o,b∉wr->s2.heap.get? b=some o->h'.get? b=some o)->Inv X aa σ H {s2 with heap:=h',toks:=tk})->Q (.ref I1) s2):wpAny (model X.prog X.w) A (pyIter (.ref a)) Q E s:=by
  have kp:∀{o:Obj}{h':Heap}{tk:Nat},(∀b u,b∉[s.heap.objs.size]->(s.heap.push o).get? b=some u->h'.get? b=some u)->Inv X aa σ H {s with heap:=h',toks:=tk}:=λ{o h' tk} k =>
    I.kept λb u e=>k b u (λz=>by
      have hb:b=s.heap.objs.size:=by simpa using z
      exact absurd (bE e) (by rw[hb];exact lN _)) (cA _ e)
  rcases sq with sq | sq
  · obtain⟨aA,rv,pl,hz⟩:=I.list sq;obtain⟨o,ho,hc,n,hd⟩:=pl.isList;have yv:=bE ho;have W:=Walks.list (prog:=X.prog) (w:=X.w) hh s.heap.objs.size a (eW yv) aA.toArray;simp only[cF,List.getElem?_toArray]at W;refine wpAny_pyIter_list pl.isList (q aA _ _ _ _ _ rv W ⟨⟨_,fm _ rfl,rfl,rfl⟩,⟨o,cA _ ho,hc,n,hd⟩⟩ (λb hb=>?_) λh' tk k=>kp k);show b<(s.heap.push _).objs.size;rw[m_];have hb:b=s.heap.objs.size\/b=a:=by simpa using hb
    rcases hb with z | z
    · rw[z];exact xH _
    · rw[z];exact C6 yv
  · obtain⟨aA,rv,pl,hz⟩:=I.tuple sq;obtain⟨o,ho,hc,n,hd⟩:=id pl;have yv:=bE ho;have W:=Walks.tuple (prog:=X.prog) (w:=X.w) hh s.heap.objs.size a (eW yv) aA.toArray;simp only[cF,List.getElem?_toArray]at W;refine C0 (show s.heap.IsTuple a aA.toArray from pl) (q aA _ _ _ _ _ rv W ⟨⟨_,fm _ rfl,rfl,rfl⟩,⟨o,cA _ ho,hc,n,hd⟩⟩ (λb hb=>?_) λh' tk k=>kp k);show b<(s.heap.push _).objs.size;rw[m_];have hb:b=s.heap.objs.size\/b=a:=by simpa using hb
    rcases hb with z | z
    · rw[z];exact xH _
    · rw[z];exact C6 yv
theorem AW{K:PySem.W.Frag}{ads:List Addr}{H:Hp}:∀{ds:List D}{bs:List Bool}{ys:List V}{aA:List Value},si ds=some bs->aT K ads H ds ys->aO ys aA->aA=bs.map Value.bool
 | [],bs,ys,aA,e,r,v=>by
  cases e;unfold aT at r;subst r;cases v;rfl
 | d::ds,bs,ys,aA,e,r,v=>by
  unfold aT at r;obtain⟨x,r',rfl,h1,h2⟩:=r;cases d<;>first | cases e | skip
  rename_i b
  unfold RD at h1;subst h1
  cases v with
  | cons hv hr =>
   cases hv;unfold si at e
   cases q:si ds with
   | none=>rw[q]at e;cases e
   | some cs =>
    rw[q]at e;cases e;rw[AW q h2 hr];rfl
theorem yJ(bs:List Bool):(List.range bs.length).all (λi=>bs.getD i true)=bs.all id:=by
 rw[Bool.eq_iff_iff,gM,gM];constructor
 ·intro h b hb;obtain⟨i,hi,rfl⟩:=CY.mp hb;have:=h i (tZ.mpr hi);simpa[tU,hi]using this
 ·intro h i hi;have hi:=tZ.mp hi;have:=h bs[i] (tY hi);simpa[tU,hi]using this
theorem yK{A:Around}(bs:List Bool):TruthOf X.prog X.w A (λi v=>(bs.map Value.bool)[i]?=some v) λi=>bs.getD i true:=by
 intro i v s Q E hP hQ;rw[ji]at hP
 cases q:bs[i]? with
 | none=>rw[q]at hP;cases hP
 | some b =>
  rw[q]at hP;cases hP;have e:bs.getD i true=b:=by rw[tU,q];rfl
  have hQ:Q (bs.getD i true) s:=hQ;rw[e]at hQ;unfold truthy;exact aZ hQ
theorem Jg(hc:X.calm=true):dt X (.builtin "all") (AV X.K .all1):=by
 intro aa s σ H xs us Q I r h;obtain⟨ads,M,ws,m,rw,h⟩:=h;rcases ws with _|⟨w,_|⟨w2,ws⟩⟩
 ·exact h.elim
 ·obtain⟨v,rfl,rv⟩:=rw.one;unfold gI at h;dsimp only at h;split at h
  ·rename_i l ds q
   split at h
   ·rename_i bs qb
    obtain⟨a,ys,rfl,rd,sq⟩:=eD m rv q;obtain⟨u,rfl,ru⟩:=vals1 r;cases ru;refine call_all_walk (oy (A:=X.A.in1) (I.ok.hd hc) I (sq.elim (λz=>.inl z.2) λz=>.inr z.2) λaA I1 fp wr St s2 vs W st Vd inv=>?_);have e:=AW qb rd vs;subst e;refine⟨I1,fp,wr,(bs.map Value.bool).length,_,St,λi=>bs.getD i true,rfl,W,st,yK bs,λh' tk hk=>⟨.bl (bs.all id),H,inv h' tk hk,?_,h.plain m (gC _)⟩⟩;rw[cM,yJ];rfl
   ·exact h.elim
  ·exact h.elim
 ·exact h.elim
theorem Ey:dt X (.type "list") (AV X.K .list1):=by
 intro aa s σ H xs us Q I r h;obtain⟨ads,M,ws,m,rw,h⟩:=h;rcases ws with _|⟨w,_|⟨w2,ws⟩⟩
 ·exact h.elim
 ·obtain⟨v,rfl,rv⟩:=rw.one;unfold gI at h;dsimp only at h;split at h
  ·rename_i l ds q
   obtain⟨a,ys,rfl,rd,sq⟩:=eD m rv q;refine pJ aa s σ H _ us Q I r ⟨a,ys,rfl,?_,λp hp=>h.list m rd hp⟩;rcases sq with⟨_,sq⟩|⟨_,sq⟩
   ·exact .inl sq
   ·exact .inr sq
  ·exact h.elim
 ·exact h.elim
theorem AX:dt X (.type "tuple") (AV X.K .tuple1):=by
 intro aa s σ H xs us Q I r h;obtain⟨ads,M,ws,m,rw,h⟩:=h;rcases ws with _|⟨w,_|⟨w2,ws⟩⟩
 ·exact h.elim
 ·obtain⟨v,rfl,rv⟩:=rw.one;unfold gI at h;dsimp only at h;split at h
  ·rename_i l ds q
   have hq:=q;obtain⟨a,ys,rfl,rd,sq⟩:=eD m rv q;rcases sq with⟨_,sq⟩|⟨el,sq⟩
   ·exact iH aa s σ H _ us Q I r ⟨a,ys,rfl,.inl ⟨sq,λp hp=>h.tuple m rd hp⟩⟩
   ·refine iH aa s σ H _ us Q I r ⟨a,ys,rfl,.inr ⟨sq,h.plain m ?_⟩⟩;subst el
    cases w with
    | lv es=>cases hq
    | d x =>
     cases x with
     | tup es =>
      have e:es=ds:=by simpa[bD]using hq
      subst e;exact rv
     | aC n =>
      simp only[bD]at hq;split at hq<;>cases hq
     | ls _=>cases hq
     | aK=>cases hq
     | bl _=>cases hq
     | int _=>cases hq
     | str _=>cases hq
  ·exact h.elim
 ·exact h.elim
theorem v7{K:PySem.W.Frag}{ads:List Addr}{H:Hp}:∀{ds:List D}{bs:List Int}{ys:List V}{aA:List Value},iK ds=some bs->aT K ads H ds ys->aO ys aA->aA.length=bs.length/\∀(i:Nat)(v:Value),aA[i]?=some v->∃t,v=Value.int (bs.getD i 0) t
 | [],bs,ys,aA,e,r,v=>by
  cases e;unfold aT at r;subst r;cases v;exact⟨rfl,λi v e=>by simp at e⟩
 | d::ds,bs,ys,aA,e,r,v=>by
  unfold aT at r;obtain⟨y,r',rfl,h1,h2⟩:=r;cases d<;>first | cases e | skip
  rename_i b
  have e:(iK ds).map (b::·)=some bs:=e
  cases q:iK ds with
  | none=>rw[q]at e;cases e
  | some bs' =>
   rw[q]at e;cases e;unfold RD at h1;subst h1
   cases v with
   | cons hv ht =>
    obtain⟨e1,e2⟩:=v7 q h2 ht;obtain⟨t,rfl⟩:=hv;refine⟨by simp[e1],λi v e=>?_⟩
    cases i with
    | zero=>exact⟨t,by simpa using e.symm⟩
    | succ i=>exact e2 i v (by simpa using e)
theorem oz(c:Int->Int->Bool)(i0:Int)(is:List Int):∀k,k<(i0::is).length->(i0::is).getD (argBest (λi j=>c ((i0::is).getD i 0) ((i0::is).getD j 0)) k) 0=(is.take k).foldl (λa b=>if c b a=true then b else a) i0
 | 0,_=>by simp[argBest]
 | k+1,h=>by
  have ih:=oz c i0 is k ∅;have hk:k<is.length:=by simpa using h
  rw[List.take_add_one,eK hk,List.foldl_append];simp only[Option.toList_some,Dc,List.foldl_nil];rw[<- ih];have hg:(i0::is).getD (k+1) 0=is[k]:=by simp[tU,hk]
  show(i0::is).getD (if c ((i0::is).getD (k+1) 0) ((i0::is).getD (argBest (λi j=>c ((i0::is).getD i 0) ((i0::is).getD j 0)) k) 0)=true then k+1 else argBest (λi j=>c ((i0::is).getD i 0) ((i0::is).getD j 0)) k) 0=_;rw[hg];by_cases q:c is[k] ((i0::is).getD (argBest (λi j=>c ((i0::is).getD i 0) ((i0::is).getD j 0)) k) 0)=true
  ·rw[aU q,aU q];exact hg
  ·rw[aX q,aX q]
theorem Ez(hc:X.calm=true):dt X (.builtin "min") (AV X.K .min1):=by
 intro aa s σ H xs us Q I r h;obtain⟨ads,M,ws,m,rw,h⟩:=h;rcases ws with _|⟨w,_|⟨w2,ws⟩⟩
 ·exact h.elim
 ·obtain⟨v,rfl,rv⟩:=rw.one;unfold gI at h;dsimp only at h;split at h
  ·rename_i l ds q
   split at h
   ·rename_i i0 is qb
    obtain⟨a,ys,rfl,rd,sq⟩:=eD m rv q;obtain⟨u,rfl,ru⟩:=vals1 r;cases ru;refine call_min_walk (oy (A:=X.A.in1) (I.ok.hd hc) I (sq.elim (λz=>.inl z.2) λz=>.inr z.2) λaA I1 fp wr St s2 vs W st Vd inv=>?_);obtain⟨e1,e2⟩:=v7 qb rd vs;refine⟨I1,fp,wr,aA.length,_,St,_,rfl,W,st,Vd,by rw[e1];simp,CmpOf.ints_lt (λi=>(i0::is).getD i 0) e2,λv h' tk hv hk=>?_⟩;obtain⟨t,rfl⟩:=e2 _ _ hv;have e3:=oz (λa b=>decide (a<b)) i0 is (aA.length-1) (by rw[e1];simp);rw[e1]at e3;simp only[fE,Nat.add_sub_cancel,xM,oW]at e3;refine⟨.int (is.foldl (λa b=>if b<a then b else a) i0),H,inv h' tk hk,⟨t,?_⟩,h.plain m (cB _)⟩;rw[e1];simp only[fE,Nat.add_sub_cancel];rw[e3]
   ·exact h.elim
  ·exact h.elim
 ·exact h.elim
theorem Jh(hc:X.calm=true):dt X (.builtin "max") (AV X.K .max2):=by
 intro aa s σ H xs us Q I r h;obtain⟨ads,M,ws,m,rw,h⟩:=h;rcases ws with _|⟨w,_|⟨w2,_|⟨w3,ws⟩⟩⟩
 ·exact h.elim
 ·rcases w with⟨_|_|_|_|_|_⟩|_<;>exact h.elim
 ·rcases w with⟨_|_ | i | _|_|_⟩|_<;>first | exact h.elim | skip
  rcases w2 with⟨_|_ | j | _|_|_⟩|_<;>first | exact h.elim | skip
  obtain⟨v,v2,rfl,r1,r2⟩:=rw.two;have e1:=aV r1;have e2:=aV r2;subst e1 e2;exact ye hc aa s σ H _ us Q I r ⟨i,j,rfl,bQ.plain h m (cB _)⟩
 ·rcases w with⟨_|_ | i | _|_|_⟩|_<;>first | exact h.elim | skip
  rcases w2 with⟨_|_ | j | _|_|_⟩|_<;>exact h.elim
theorem dQ(n:Nat)(hA:∀d p,cL M' n d=some p->p.hasDict=false):∀(ds:List D)(ps:List PyData),bj M' n ds=some ps->PyData.hasDictAll ps=false
 | [],ps,e=>by unfold bj at e;cases e;rfl
 | d::ds,ps,e=>by
  unfold bj at e
  cases q1:cL M' n d with
  | none=>rw[q1]at e;cases e
  | some p =>
   cases q2:bj M' n ds with
   | none=>rw[q1,q2]at e;cases e
   | some qs =>
    rw[q1,q2]at e;cases e;rw[PyData.hasDictAll,hA d p q1,dQ n hA ds qs q2];rfl
theorem sA:∀(n:Nat)(d:D)(p:PyData),cL M' n d=some p->p.hasDict=false:=by
 intro n
 induction n with
 | zero=>intro d p e;cases d<;>(unfold cL at e;cases e)<;>simp[PyData.hasDict]
 | succ n ih =>
  intro d p e
  cases d with
  | tup ds =>
   unfold cL at e
   cases q:bj M' n ds with
   | none=>rw[q]at e;cases e
   | some ps=>rw[q]at e;cases e;rw[PyData.hasDict];exact dQ n ih ds ps q
  | aC k =>
   unfold cL at e;split at e
   ·cases q:bj M' n _ with
    | none=>rw[q]at e;cases e
    | some ps=>rw[q]at e;cases e;rw[PyData.hasDict];exact dQ n ih _ ps q
   ·cases q:bj M' n _ with
    | none=>rw[q]at e;cases e
    | some ps=>rw[q]at e;cases e;rw[PyData.hasDict];exact dQ n ih _ ps q
   ·cases e
  | ls ds =>
   unfold cL at e
   cases q:bj M' n ds with
   | none=>rw[q]at e;cases e
   | some ps=>rw[q]at e;cases e;rw[PyData.hasDict];exact dQ n ih ds ps q
  | aK=>unfold cL at e;cases e;simp[PyData.hasDict]
  | bl _=>unfold cL at e;cases e;simp[PyData.hasDict]
  | int _=>unfold cL at e;cases e;simp[PyData.hasDict]
  | str _=>unfold cL at e;cases e;simp[PyData.hasDict]
theorem Ji:dt X (.type "int") (AV X.K .mr):=by
 intro aa s σ H xs us Q I r h;obtain⟨ads,M,ws,m,rw,h⟩:=h;rcases ws with _|⟨w,_|⟨w2,ws⟩⟩
 ·exact h.elim
 ·obtain⟨v,rfl,rv⟩:=rw.one
  cases w with
  | lv ds=>exact h.elim
  | d x =>
   cases x with
   | int i =>
    have e:=aV rv;subst e;exact nR aa s σ H _ us Q I r (.inl ⟨i,rfl,bQ.plain h m (cB _)⟩)
   | bl i =>
    have e:=iN rv;subst e;exact nR aa s σ H _ us Q I r (.inr ⟨i,rfl,bQ.plain h m (cB _)⟩)
   | aK=>exact h.elim
   | str _=>exact h.elim
   | tup _=>exact h.elim
   | aC _=>exact h.elim
   | ls _=>exact h.elim
 ·rcases w with⟨_|_|_|_|_|_⟩|_<;>exact h.elim
theorem EA{k:Nat}(hr:fF k X.A):dt X (.builtin "repr") (AV X.K .iI):=by
 intro aa s σ H xs us Q I r h;obtain⟨ads,M,ws,m,rw,h⟩:=h;rcases ws with _|⟨w,_|⟨w2,ws⟩⟩
 ·exact h.elim
 ·obtain⟨v,rfl,rv⟩:=rw.one;unfold gI at h;dsimp only at h;split at h
  ·rename_i p q
   split at h
   ·rename_i hs
    obtain⟨u,rfl,ru⟩:=vals1 r;obtain⟨as,ra⟩:=gp I m rv ru q;have Ln:=hr.un
    have eY:∀(h':Heap)(t:Tok)(tk:Nat),(∀b o,s.heap.get? b=some o->h'.get? b=some o)->EP X aa σ Q (.str p.shown t) {s with heap:=h',toks:=tk}:=λh' t tk hk =>
     ⟨.str p.shown,H,I.kept hk,⟨t,rfl⟩,h.plain m (pY _)⟩
    have EB:∀(t:Tok)(tk:Nat),EP X aa σ Q (.str p.shown t) {s with toks:=tk}:=λt tk=>eY s.heap t tk λ_ _ e=>e
    have nd:p.hasDict=false:=by
     cases w with
     | d x=>exact sA 30 x p q
     | lv ds =>
      have e:(bj M 30 ds).map PyData.list=some p:=q
      cases q2:bj M 30 ds with
      | none=>rw[q2]at e;cases e
      | some ps=>rw[q2]at e;cases e;rw[PyData.hasDict];exact dQ 30 (sA 30) ds ps q2
    cases ra with
    | none=>exact PySem.P.repr_of_none (EB _ _)
    | bool b=>exact PySem.P.repr_of_bool (EB _ _)
    | int i t=>exact PySem.P.repr_of_int (zr hs.1) (EB _ _)
    | str x t=>exact PySem.P.repr_of_str (EB _ _) hs.2.2
    | list h1 h2 h3 h4=>exact repr_of_reads' (.list h1 h2 h3 h4) hs.1 (PyData.noDict_hsm nd) hr.gd (by have:=hs.2.1;omega) (λ_ _ e=>e) (λh' t tk hk=>eY h' t tk hk) hs.2.2
    | tuple h1 h2 h3 h4=>exact repr_of_reads' (.tuple h1 h2 h3 h4) hs.1 (PyData.noDict_hsm nd) hr.gd (by have:=hs.2.1;omega) (λ_ _ e=>e) (λh' t tk hk=>eY h' t tk hk) hs.2.2
    | dict h1 h2 h3 h4 h5=>rw[PyData.hasDict]at nd;cases nd
   ·exact h.elim
  ·exact h.elim
 ·exact h.elim
theorem Jj:dt X (.type "str") (AV X.K .str1):=by
 intro aa s σ H xs us Q I r h;obtain⟨ads,M,ws,m,rw,h⟩:=h;rcases ws with _|⟨w,_|⟨w2,ws⟩⟩
 ·exact h.elim
 ·obtain⟨v,rfl,rv⟩:=rw.one;rcases w with⟨_|_ | i | _|_|_|_⟩|_<;>first | exact h.elim | skip
  have h:bQ X.K ads H Q (if i.natAbs.log2<1920 then .ok (.d (.str (Str.ofString (toString i)))) M else .ae):=h;split at h
  ·rename_i hi
   obtain⟨u,rfl,ru⟩:=vals1 r;rw[aV rv]at ru;obtain⟨t,rfl⟩:=ru;exact PySem.P.str_of_int hi ⟨.str _,H,I.tok _,⟨_,rfl⟩,h.plain m (pY _)⟩
  ·exact h.elim
 ·rcases w with⟨_|_|_|_|_|_|_⟩|_<;>exact h.elim
noncomputable def sC:Ty->String
 | .int => "int" | .bool => "bool" | .str => "str" | .tuple => "tuple" | .list => "list" | .dict => "dict" | .none => "NoneType"
theorem EC(K:PySem.W.Frag):∀g t:Ty,PySem.W.kitOne K (.type (sC g)) (.type (sC t))=some (decide (g=t)||(decide (g=.bool)&&decide (t=.int))):=by
 intro g t;cases g<;>cases t<;>kernel_rfl
theorem Jk{K:PySem.W.Frag}{ads:List Addr}{H:Hp}{M:ag}{w:W}{v:V}{g:Ty}(m:aD K ads H M)(r:RW K ads H w v)(e:yF M w=some g):j9 K H v (.type (sC g)):=by
 cases w with
 | lv ds=>cases e;obtain⟨a,xs,rfl,h,_⟩:=r;exact .lst h
 | d x =>
  cases x with
  | aK=>cases e;rw[mF r];exact .aK
  | bl b=>cases e;rw[iN r];exact .bl b
  | int b=>cases e;rw[aV r];exact .int b
  | str b=>cases e;rw[dy r];exact .str b
  | ls b=>cases e
  | tup b=>cases e;have r:RD K ads H (.tup b) v:=r;unfold RD at r;obtain⟨a,xs,rfl,h,_⟩:=r;exact .tup h
  | aC n =>
   have r:RD K ads H (.aC n) v:=r;unfold RD at r;obtain⟨a,rfl,ea⟩:=r;unfold yF at e;dsimp only at e
   cases q:M[n]? with
   | none=>rw[q]at e;cases e
   | some o =>
    rw[q]at e;have ho:=m.obj n o a q ea
    cases o with
    | lst es=>cases e;obtain⟨xs,h,_⟩:=ho;exact .lst h
    | iZ es=>cases e;obtain⟨o,xs,h,_⟩:=ho;exact .gA h
    | dK es=>cases e;obtain⟨xs,h,_⟩:=ho;exact .dK h
    | dT es=>cases e;obtain⟨xs,h,_⟩:=ho;exact .dT h
    | dF es=>cases e
    | xc _ _=>cases e
theorem Jl(t:Ty):dt X (.builtin "isinstance") (λvs H Q=>∃v,vs=[v,.ty (sC t)]/\AV X.K (.iJ t) [v] H Q):=by
 intro aa s σ H xs us Q I r h;obtain⟨v,rfl,ads,M,ws,m,rw,h⟩:=h;obtain⟨u,u2,rfl,r1,r2⟩:=vals2 r;rcases ws with _|⟨w,_|⟨w2,ws⟩⟩
 ·exact h.elim
 ·obtain⟨v',e,rv⟩:=rw.one;cases e;unfold gI at h;dsimp only at h;split at h
  ·rename_i g q
   have e2:u2=Value.type (sC t):=r2;subst e2;exact yh I r1 (Jk m rv q) (EC X.K g t) λtk=>⟨.bl _,H,I.tok tk,rfl,h.plain m (gC _)⟩
  ·exact h.elim
 ·obtain⟨_,_,e,_,_,_,e2,_⟩:=rw;cases e;cases e2
end
end
section
variable [EX]
section
variable {X:Cx}
def Ql(K:PySem.W.Frag)(me:Me):V->List V->Hp->VK->Prop:=λx vs H Q=>∃ads M wx ds,aD K ads H M/\RW K ads H wx x/\aT K ads H ds vs/\bQ K ads H Q (uy me wx ds M)
theorem aT.N4{K:PySem.W.Frag}{ads:List Addr}{H:Hp}{d:D}{vs:List V}(r:aT K ads H [d] vs):∃v,vs=[v]/\RD K ads H d v:=by
 unfold aT at r;obtain⟨v,r',rfl,h,h2⟩:=r;unfold aT at h2;subst h2;exact⟨v,rfl,h⟩
theorem aT.SZ{K:PySem.W.Frag}{ads:List Addr}{H:Hp}{d e:D}{vs:List V}(r:aT K ads H [d,e] vs):∃v w,vs=[v,w]/\RD K ads H d v/\RD K ads H e w:=by
 unfold aT at r;obtain⟨v,r',rfl,h,h2⟩:=r;obtain⟨w,rfl,h3⟩:=h2.N4;exact⟨v,w,rfl,h,h3⟩
theorem bQ.wrote{K:PySem.W.Frag}{ads:List Addr}{H:Hp}{M:ag}{n:Nat}{a:Addr}{ds es:List D}{ys:List V}{x:D}{Q:VK}{v:V}(h:bQ K ads H Q (.ok (.d x) (M.set n (.lst es))))(m:aD K ads H M)(q:M[n]?=some (.lst ds))(ea:ads[n]?=some a)(ha:∃xs,H a=some (.lst xs))(ry:aT K ads H es ys)(rx:RD K ads (a_ H a (.lst ys)) x v):Q v (a_ H a (.lst ys)):=by
 obtain⟨xs,ha⟩:=ha;have nf:∀o x,H a≠some (.gA o x):=λo x z=>by rw[ha]at z;cases z
 have g:ay ads ads H (a_ H a (.lst ys)):=by
  have Ed:a∈ads:=dC ea
  exact⟨⟨[],by simp⟩,λb h n=>absurd h n,λb x nb h=>by rw[ai (by intro z;subst z;exact nb Ed)];exact h,λb xs h=>by
   rw[ai (λz=>by subst z;rw[ha]at h;cases h)];exact h,λb o u h=>by rw[ai (λz=>by subst z;exact nf _ _ h)];exact h⟩
 obtain⟨g',m'⟩:=m.write (o:=.lst es) (ho:=.lst ys) q ea nf ⟨ys,aB,g.nD _ _ ry⟩;exact h v _ ads g m' rx
theorem oA:Lf X "list.append" (Ql X.K .append):=by
 intro aa s σ H x vs v us Q I rx rv h;obtain⟨ads,M,wx,ds,m,r1,r2,h⟩:=h;rcases wx with⟨_|_|_|_|_ | n⟩|_<;>first | exact h.elim | skip
 have r1:RD X.K ads H (.aC n) x:=r1;unfold RD at r1;obtain⟨a,rfl,ea⟩:=r1;unfold uy at h;dsimp only at h
 cases q:M[n]? with
 | none=>rw[q]at h;exact h.elim
 | some o =>
  rw[q]at h
  cases o with
  | lst es =>
   rcases ds with _|⟨d,_|⟨d2,ds⟩⟩
   ·exact h.elim
   ·dsimp only at h;split at h
    ·rename_i hz
     obtain⟨y,rfl,ry⟩:=r2.N4;obtain⟨xs,ha,rd⟩:=m.obj n _ a q ea;exact og aa s σ H _ _ v us Q I rx rv ⟨a,xs,y,rfl,rfl,ha,by rw[<- rd.len];exact hz,bQ.wrote h m q ea ⟨xs,ha⟩ (rd.app (.one ry)) ku⟩
    ·exact h.elim
   ·exact h.elim
  | iZ _=>exact h.elim
  | dK _=>exact h.elim
  | dT _=>exact h.elim
  | dF _=>exact h.elim
  | xc _ _=>exact h.elim
theorem AY{K:PySem.W.Frag}{ads:List Addr}{H:Hp}:∀{ds:List D}{ks:List bC}{xs:List V},mw ds=some ks->aT K ads H ds xs->xs=ks.map kV
 | [],_,_,e,r=>by cases e;unfold aT at r;exact r
 | d::ds,_,_,e,r=>by
  unfold aT at r;obtain⟨y,r',rfl,h1,h2⟩:=r;cases d<;>first | cases e | skip
  all_goals
   rename_i b
   have e:(mw ds).map (_::·)=some _:=e
   cases q:mw ds with
   | none=>rw[q]at e;cases e
   | some bs =>
    rw[q]at e;cases e;unfold RD at h1;rw[h1,AY q h2];rfl
theorem v8{K:PySem.W.Frag}{ads:List Addr}{H:Hp}{w:W}{v:V}{k:List bC}(r:RW K ads H w v)(e:AH w=some k):∃b,v=.ref b/\H b=some (.tup (k.map kV)):=by
 rcases w with⟨_|_|_|_ | ds | _|_⟩|_<;>first | cases e | skip
 have r:RD K ads H (.tup ds) v:=r;unfold RD at r;obtain⟨b,xs,rfl,hb,rd⟩:=r;have e:mw ds=some k:=e;exact⟨b,rfl,by rw[<- AY e rd];exact hb⟩
theorem N5{K:PySem.W.Frag}{ads:List Addr}{H:Hp}{M:ag}{w:W}{v:V}{ao:List (List bC×D)}(m:aD K ads H M)(r:RW K ads H w v)(e:NW M w=some ao):∃a ks,v=.ref a/\Rd H a (.dT ks)/\bN K ads H ao ks:=by
 rcases w with⟨_|_|_|_|_ | n | _⟩|_<;>first | cases e | skip
 have r:RD K ads H (.aC n) v:=r;unfold RD at r;obtain⟨a,rfl,ea⟩:=r;unfold NW at e;dsimp only at e;split at e
 ·rename_i q
  cases e;obtain⟨ks,h,rk⟩:=m.obj n _ a q ea;exact⟨a,ks,rfl,.inl h,rk⟩
 ·rename_i q
  cases e;obtain⟨o,ks,h,rk⟩:=m.obj n _ a q ea;exact⟨a,ks,rfl,.inr ⟨o,h⟩,rk⟩
 ·cases e
theorem Jm{H:Hp}{a b:Addr}{k:List bC}{ks:List (List bC×V)}(h:Rd H a (.dT ks))(hb:H b=some (.tup (k.map kV))):jq H a (.ref b) (jn ks k):=.inr ⟨ks,k,b,h,rfl,hb,rfl⟩
theorem Jn{K:PySem.W.Frag}{ads:List Addr}{H:Hp}{a b:Addr}{k:List bC}{ao:List (List bC×D)}{ks:List (List bC×V)}(h:Rd H a (.dT ks))(hb:H b=some (.tup (k.map kV)))(r:bN K ads H ao ks):∃o,jq H a (.ref b) o/\o.isSome=(dN ao k).isSome:=by
 refine⟨_,Jm h hb,?_⟩
 cases q:dN ao k with
 | none=>rw[r.vZ q];rfl
 | some d =>
  obtain⟨v,e,_⟩:=r.find (k:=k) q;rw[e];rfl
def ED:V->List V->Hp->VK->Prop:=λx vs H Q=>∃l xs i y,x=.ref l/\vs=[.int i,y]/\H l=some (.lst xs)/\xs.length<sizeLine/\0<=i/\i<=xs.length/\Q .aK (a_ H l (.lst (xs.take i.toNat++y::xs.drop i.toNat)))
theorem yL:Lf X "list.insert" ED:=by
 intro aa s σ H x vs v us Q I rx rv h;obtain⟨l,xs,i,y,rfl,rfl,hH,hz,h0,h1,q⟩:=h;cases rx;obtain⟨u,w,rfl,ru,ym⟩:=rv.two;obtain⟨t,rfl⟩:=ru;obtain⟨z,aA,n,r,hl,e⟩:=I.Ai hH;have hs:sizeLine=16777216:=xW;refine t6 F.slot_list_insert ⟨_,e,rfl⟩ F.entry_list_insert (F.args_list_insert_3 _ _ _) (AutoSeq1.list_insert_list_int_val_1 l aA.toArray n i t w ?_ (by rw[cF];omega)) ⟨e,?_⟩
 ·simp only[Builtin.List.listFitsIndex,gh,Bool.not_eq_false];have:(i:Int)<=16777216:=∅;simp;omega
 ·refine⟨.aK,_,I.Ng (its':=aA.take i.toNat++w::aA.drop i.toNat) hH e ?_ ((r.take _).append (.cons ym (r.drop _))) ?_,rfl,q⟩
  ·dsimp only;rw[aX ∅];have hk:min i.toNat aA.toArray.size=i.toNat:=by rw[cF];omega
   rw[hk];apply Array.ext';simp only[Array.toList_append,Array.toList_push,Array.toList_extract,List.extract_eq_take_drop,cF,List.drop_zero,Nat.sub_zero];rw[List.take_of_length_le (l:=List.drop i.toNat aA) (by simp)];simp
  ·simp;omega
theorem oB:Lf X "list.insert" (Ql X.K .insert):=by
 intro aa s σ H x vs v us Q I rx rv h;obtain⟨ads,M,wx,ds,m,r1,r2,h⟩:=h;rcases wx with⟨_|_|_|_|_ | n⟩|_<;>first | exact h.elim | skip
 have r1:RD X.K ads H (.aC n) x:=r1;unfold RD at r1;obtain⟨a,rfl,ea⟩:=r1;unfold uy at h;dsimp only at h
 cases q:M[n]? with
 | none=>rw[q]at h;exact h.elim
 | some o =>
  rw[q]at h
  cases o with
  | lst es =>
   rcases ds with _|⟨d,_|⟨d2,_|⟨d3,ds⟩⟩⟩
   ·exact h.elim
   ·rcases d with _|_|_|_|_|_<;>exact h.elim
   ·rcases d with _|_ | i | _|_|_<;>first | exact h.elim | skip
    dsimp only at h;split at h
    ·rename_i hz
     obtain⟨vi,y,rfl,ri,ry⟩:=r2.SZ;unfold RD at ri;subst ri;obtain⟨xs,ha,rd⟩:=m.obj n _ a q ea;refine yL aa s σ H _ _ v us Q I rx rv ⟨a,xs,i,y,rfl,rfl,ha,by rw[<- rd.len];exact hz.1,hz.2.1,by rw[<- rd.len];exact hz.2.2,bQ.wrote h m q ea ⟨xs,ha⟩ ((rd.take _).app ?_) ku⟩;show aT X.K ads H (d2::es.drop i.toNat) (y::xs.drop i.toNat);unfold aT;exact⟨y,_,rfl,ry,rd.drop _⟩
    ·exact h.elim
   ·rcases d with _|_ | i | _|_|_<;>exact h.elim
  | iZ _=>exact h.elim
  | dK _=>exact h.elim
  | dT _=>exact h.elim
  | dF _=>exact h.elim
  | xc _ _=>exact h.elim
def jz(o i:W)(d:D)(M:ag):bF Unit :=
 match o with
 | .d (.aC n)=>match M[n]? with
  | some (.lst ds)=>match i with
   | .d (.int k)=>match DQ ds.length k with
    | some j=>.ok () (M.set n (.lst (ds.set j d)))
    | none=>.ae
   | _=>.ae
  | some (.dK ao)=>match i with
   | .d (.str k)=>if ao.length<sizeLine then .ok () (M.set n (.dK (jx ao (Sum.inr k) d))) else .ae
   | .d (.int k)=>if ao.length<sizeLine then .ok () (M.set n (.dK (jx ao (Sum.inl k) d))) else .ae
   | _=>.ae
  | _=>.ae
 | _=>.ae
def S0(K:PySem.W.Frag)(ads:List Addr)(H:Hp)(Q:Hp->Prop):bF Unit->Prop
 | .ok _ M=>∀H' ax,ay ads ax H H'->aD K ax H' M->Q H'
 | .err x M=>EX.post K ads H x M
 | .ae=>False
def S1(K:PySem.W.Frag):Ds:=λo i v H Q=>∃ads M wo wi d,aD K ads H M/\RW K ads H wo o/\RW K ads H wi i/\RD K ads H d v/\S0 K ads H Q (jz wo wi d M)
theorem Jo(hu:X.A.units+1<cLine):Dt X (S1 X.K):=by
 intro aa s σ H o i v ov iv u Q I ro ri rv h;obtain⟨ads,M,wo,wi,d,m,r1,r2,r3,h⟩:=h;rcases wo with⟨_|_|_|_|_ | n⟩|_<;>first | exact h.elim | skip
 have r1:RD X.K ads H (.aC n) o:=r1;unfold RD at r1;obtain⟨a,rfl,ea⟩:=r1;unfold jz at h;dsimp only at h
 cases q:M[n]? with
 | none=>rw[q]at h;exact h.elim
 | some ob =>
  rw[q]at h;have Ed:a∈ads:=dC ea
  cases ob with
  | lst ds =>
   rcases wi with⟨_|_ | k | _|_|_⟩|_<;>first | exact h.elim | skip
   have ei:=aV r2;subst ei;dsimp only at h
   cases q2:DQ ds.length k with
   | none=>rw[q2]at h;exact h.elim
   | some j =>
    rw[q2]at h;obtain⟨xs,ha,rd⟩:=m.obj n _ a q ea;refine Ac aa s σ H _ _ v ov iv u Q I ro ri rv ⟨a,xs,k,j,rfl,rfl,ha,by rw[<- rd.len];exact q2,?_⟩;have nf:∀o x,H a≠some (.gA o x):=λo x z=>by rw[ha]at z;cases z
    have hg:ay ads ads H (a_ H a (.lst (xs.set j v))):=⟨⟨[],by simp⟩,λb h n=>absurd h n,λb x nb h=>by rw[ai (by intro z;subst z;exact nb Ed)];exact h,λb xs h=>by
     rw[ai (λz=>by subst z;rw[ha]at h;cases h)];exact h,λb o u h=>by rw[ai (λz=>by subst z;exact nf _ _ h)];exact h⟩
    obtain⟨g',m'⟩:=m.write (o:=.lst (ds.set j d)) (ho:=.lst (xs.set j v)) q ea nf ⟨_,aB,hg.nD _ _ (rd.setAt j r3)⟩;exact h _ ads hg m'
  | dK ao =>
   obtain⟨ks,ha,rk⟩:=m.obj n _ a q ea;have nf:∀o x,H a≠some (.gA o x):=λo x z=>by rw[ha]at z;cases z
   have put:∀(k:bC),i=kV k->ao.length<sizeLine->S0 X.K ads H Q (.ok () (M.set n (.dK (jx ao k d))))->wpAny (model X.prog X.w) X.A (setItem ov iv u) (λ_ s'=>∃H',Inv X aa σ H' s'/\Q H') X.xe s:=by
    intro k ek hz h;subst ek;cases ro;refine n_ hu I (ue.k (k:=k) ha (by rw[<- rk.len];exact hz)) ri rv λs' I'=>⟨_,I',?_⟩
    have hg:ay ads ads H (a_ H a (.dK (eM ks k v))):=⟨⟨[],by simp⟩,λb h n=>absurd h n,λb x nb h=>by rw[ai (by intro z;subst z;exact nb Ed)];exact h,λb xs h=>by
     rw[ai (λz=>by subst z;rw[ha]at h;cases h)];exact h,λb o u h=>by rw[ai (λz=>by subst z;exact nf _ _ h)];exact h⟩
    obtain⟨g',m'⟩:=m.write (o:=.dK (jx ao k d)) (ho:=.dK (eM ks k v)) q ea nf ⟨_,aB,hg.zc _ _ (rk.put r3)⟩;exact h _ ads hg m'
   rcases wi with⟨_|_ | k | k | _|_⟩|_<;>first | exact h.elim | skip
   ·have ei:=aV r2;subst ei;dsimp only at h;split at h
    ·rename_i hz
     exact put (Sum.inl k) rfl hz h
    ·exact h.elim
   ·have ei:=dy r2;subst ei;dsimp only at h;split at h
    ·rename_i hz
     exact put (Sum.inr k) rfl hz h
    ·exact h.elim
  | iZ _=>exact h.elim
  | dT _=>exact h.elim
  | dF _=>exact h.elim
  | xc _ _=>exact h.elim
def N6(K:PySem.W.Frag):V->V->V->Hp->(Hp->Prop)->Prop:=λo i v H Q=>∃ads M wo wi d,aD K ads H M/\RW K ads H wo o/\RW K ads H wi i/\RD K ads H d v/\S0 K ads H Q (gV wo wi d M)
theorem EE(hu:X.A.units+1<cLine):Dt X (N6 X.K):=by
 intro aa s σ H o i v ov iv u Q I ro ri rv h;obtain⟨ads,M,wo,wi,d,m,r1,r2,r3,h⟩:=h;rcases wo with⟨_|_|_|_|_ | n⟩|_<;>first | exact h.elim | skip
 have r1:RD X.K ads H (.aC n) o:=r1;unfold RD at r1;obtain⟨a,rfl,ea⟩:=r1;have Ed:a∈ads:=dC ea;unfold gV at h;dsimp only at h;split at h
 ·rename_i ao k q qk
  split at h
  ·rename_i hz
   obtain⟨ks,ha,rk⟩:=m.obj n _ a q ea;have nf:∀o x,H a≠some (.gA o x):=λo x z=>by rw[ha]at z;cases z
   obtain⟨b,rfl,hb⟩:=v8 r2 qk;cases ro;refine n_ hu I (ue.t (k:=k) ha hb (by rw[<- rk.len];exact hz)) ri rv λs' I'=>⟨_,I',?_⟩
   have hg:ay ads ads H (a_ H a (.dT (eM ks k v))):=⟨⟨[],by simp⟩,λb h n=>absurd h n,λb x nb h=>by rw[ai (by intro z;subst z;exact nb Ed)];exact h,λb xs h=>by
    rw[ai (λz=>by subst z;rw[ha]at h;cases h)];exact h,λb o u h=>by rw[ai (λz=>by subst z;exact nf _ _ h)];exact h⟩
   obtain⟨g',m'⟩:=m.write (o:=.dT (jx ao k d)) (ho:=.dT (eM ks k v)) q ea nf ⟨_,aB,hg.zc _ _ (rk.put r3)⟩;exact h _ ads hg m'
  ·exact h.elim
 ·exact h.elim
end
end
section
variable [EX]
structure XI where
 cl:List (Str×Addr×List Str)
 kt:List (IX×Addr×Bool)
 ct:List (Str×Addr×List Str)
 hs:List Nat
abbrev EF:XI:=⟨[],[],[],[]⟩
structure CC where
 N:List Str
 names:List (Str×NameKind)
 fs:List (Str×Nat)
 gs:List (Str×Int)
 xs:XI
noncomputable def Lo(cc:CC)(x:Str):Bool:=match cc.names.lookup x with
 | some .local=>true
 | some .cell=>true
 | some .free=>true
 | _=>false
noncomputable def glob(cc:CC)(x:Str):Bool:=match cc.names.lookup x with
 | some .globalImplicit=>true
 | _=>false
noncomputable def aQ(x:Str):Bool:=!(x==("__debug__" : Str)) && !(x==("__classdict__" : Str)) && !(x==("__name__" : Str))
theorem bG{p:Prop}[d:Decidable p]{f:p->Bool}(h:(if h:p then f h else false)=true):p:=by
 cases d with
 | isTrue q=>exact q
 | isFalse q=>rw[dif_neg q]at h;exact absurd h au
noncomputable def f_(e:Expr)(f:BoolOp->List Expr->Pos->Bool):Bool:=if h:e.ctorIdx=0 then Expr.BoolOp.elim (motive_1:=λ_=>Bool) e h f else false
theorem df{P:Expr->Prop}{e:Expr}{f:BoolOp->List Expr->Pos->Bool}(h:f_ e f=true)(k:∀a b c,f a b c=true->P (.BoolOp a b c)):P e :=
 Expr.BoolOp.elim (motive_1:=λe=>f_ e f=true->P e) e (bG h) (λa b c h=>k a b c h) h
noncomputable def p5(e:Expr)(f:Expr->Operator->Expr->Pos->Bool):Bool:=if h:e.ctorIdx=2 then Expr.BinOp.elim (motive_1:=λ_=>Bool) e h f else false
theorem uB{P:Expr->Prop}{e:Expr}{f:Expr->Operator->Expr->Pos->Bool}(h:p5 e f=true)(k:∀a b c d,f a b c d=true->P (.BinOp a b c d)):P e :=
 Expr.BinOp.elim (motive_1:=λe=>p5 e f=true->P e) e (bG h) (λa b c d h=>k a b c d h) h
noncomputable def gc(e:Expr)(f:UnaryOp->Expr->Pos->Bool):Bool:=if h:e.ctorIdx=3 then Expr.UnaryOp.elim (motive_1:=λ_=>Bool) e h f else false
theorem eP{P:Expr->Prop}{e:Expr}{f:UnaryOp->Expr->Pos->Bool}(h:gc e f=true)(k:∀a b c,f a b c=true->P (.UnaryOp a b c)):P e :=
 Expr.UnaryOp.elim (motive_1:=λe=>gc e f=true->P e) e (bG h) (λa b c h=>k a b c h) h
noncomputable def p9(e:Expr)(f:List (Option Expr)->List Expr->Pos->Bool):Bool:=if h:e.ctorIdx=6 then Expr.Dict.elim (motive_1:=λ_=>Bool) e h f else false
theorem oC{P:Expr->Prop}{e:Expr}{f:List (Option Expr)->List Expr->Pos->Bool}(h:p9 e f=true)(k:∀a b c,f a b c=true->P (.Dict a b c)):P e :=
 Expr.Dict.elim (motive_1:=λe=>p9 e f=true->P e) e (bG h) (λa b c h=>k a b c h) h
noncomputable def gq(e:Expr)(f:Expr->List Comprehension->Scope->Pos->Bool):Bool:=if h:e.ctorIdx=8 then Expr.ListComp.elim (motive_1:=λ_=>Bool) e h f else false
theorem iO{P:Expr->Prop}{e:Expr}{f:Expr->List Comprehension->Scope->Pos->Bool}(h:gq e f=true)(k:∀a b c d,f a b c d=true->P (.ListComp a b c d)):P e :=
 Expr.ListComp.elim (motive_1:=λe=>gq e f=true->P e) e (bG h) (λa b c d h=>k a b c d h) h
noncomputable def eU(e:Expr)(f:Expr->List CmpOp->List Expr->Pos->Bool):Bool:=if h:e.ctorIdx=15 then Expr.Compare.elim (motive_1:=λ_=>Bool) e h f else false
theorem eQ{P:Expr->Prop}{e:Expr}{f:Expr->List CmpOp->List Expr->Pos->Bool}(h:eU e f=true)(k:∀a b c d,f a b c d=true->P (.Compare a b c d)):P e :=
 Expr.Compare.elim (motive_1:=λe=>eU e f=true->P e) e (bG h) (λa b c d h=>k a b c d h) h
noncomputable def dR(e:Expr)(f:Expr->List Expr->List Keyword->Pos->Bool):Bool:=if h:e.ctorIdx=16 then Expr.Call.elim (motive_1:=λ_=>Bool) e h f else false
theorem bR{P:Expr->Prop}{e:Expr}{f:Expr->List Expr->List Keyword->Pos->Bool}(h:dR e f=true)(k:∀a b c d,f a b c d=true->P (.Call a b c d)):P e :=
 Expr.Call.elim (motive_1:=λe=>dR e f=true->P e) e (bG h) (λa b c d h=>k a b c d h) h
noncomputable def dc(e:Expr)(f:Const->Nat->Pos->Bool):Bool:=if h:e.ctorIdx=19 then Expr.Constant.elim (motive_1:=λ_=>Bool) e h f else false
theorem cW{P:Expr->Prop}{e:Expr}{f:Const->Nat->Pos->Bool}(h:dc e f=true)(k:∀a b c,f a b c=true->P (.Constant a b c)):P e :=
 Expr.Constant.elim (motive_1:=λe=>dc e f=true->P e) e (bG h) (λa b c h=>k a b c h) h
noncomputable def d5(e:Expr)(f:Expr->Str->Pos->Bool):Bool:=if h:e.ctorIdx=20 then Expr.Attribute.elim (motive_1:=λ_=>Bool) e h f else false
theorem dz{P:Expr->Prop}{e:Expr}{f:Expr->Str->Pos->Bool}(h:d5 e f=true)(k:∀a b c,f a b c=true->P (.Attribute a b c)):P e :=
 Expr.Attribute.elim (motive_1:=λe=>d5 e f=true->P e) e (bG h) (λa b c h=>k a b c h) h
noncomputable def dg(e:Expr)(f:Expr->Expr->Pos->Bool):Bool:=if h:e.ctorIdx=21 then Expr.Subscript.elim (motive_1:=λ_=>Bool) e h f else false
theorem cG{P:Expr->Prop}{e:Expr}{f:Expr->Expr->Pos->Bool}(h:dg e f=true)(k:∀a b c,f a b c=true->P (.Subscript a b c)):P e :=
 Expr.Subscript.elim (motive_1:=λe=>dg e f=true->P e) e (bG h) (λa b c h=>k a b c h) h
noncomputable def bH(e:Expr)(f:Str->Pos->Bool):Bool:=if h:e.ctorIdx=23 then Expr.Name.elim (motive_1:=λ_=>Bool) e h f else false
theorem aF{P:Expr->Prop}{e:Expr}{f:Str->Pos->Bool}(h:bH e f=true)(k:∀a b,f a b=true->P (.Name a b)):P e :=
 Expr.Name.elim (motive_1:=λe=>bH e f=true->P e) e (bG h) (λa b h=>k a b h) h
noncomputable def uC(e:Expr)(f:List Expr->Pos->Bool):Bool:=if h:e.ctorIdx=24 then Expr.List.elim (motive_1:=λ_=>Bool) e h f else false
theorem yM{P:Expr->Prop}{e:Expr}{f:List Expr->Pos->Bool}(h:uC e f=true)(k:∀a b,f a b=true->P (.List a b)):P e :=
 Expr.List.elim (motive_1:=λe=>uC e f=true->P e) e (bG h) (λa b h=>k a b h) h
noncomputable def iq(e:Expr)(f:List Expr->Nat->Pos->Bool):Bool:=if h:e.ctorIdx=25 then Expr.Tuple.elim (motive_1:=λ_=>Bool) e h f else false
theorem ff{P:Expr->Prop}{e:Expr}{f:List Expr->Nat->Pos->Bool}(h:iq e f=true)(k:∀a b c,f a b c=true->P (.Tuple a b c)):P e :=
 Expr.Tuple.elim (motive_1:=λe=>iq e f=true->P e) e (bG h) (λa b c h=>k a b c h) h
noncomputable def p_(e:Expr)(f:Option Expr->Option Expr->Option Expr->Pos->Bool):Bool:=if h:e.ctorIdx=26 then Expr.Slice.elim (motive_1:=λ_=>Bool) e h f else false
theorem uD{P:Expr->Prop}{e:Expr}{f:Option Expr->Option Expr->Option Expr->Pos->Bool}(h:p_ e f=true)(k:∀a b c d,f a b c d=true->P (.Slice a b c d)):P e :=
 Expr.Slice.elim (motive_1:=λe=>p_ e f=true->P e) e (bG h) (λa b c d h=>k a b c d h) h
noncomputable def jA(e:Stmt)(f:Option Expr->Pos->Bool):Bool:=if h:e.ctorIdx=3 then Stmt.Return.elim (motive_2:=λ_=>Bool) e h f else false
theorem gX{P:Stmt->Prop}{e:Stmt}{f:Option Expr->Pos->Bool}(h:jA e f=true)(k:∀a b,f a b=true->P (.Return a b)):P e :=
 Stmt.Return.elim (motive_2:=λe=>jA e f=true->P e) e (bG h) (λa b h=>k a b h) h
noncomputable def qg(e:Stmt)(f:Option Expr->Option Expr->Pos->Bool):Bool:=if h:e.ctorIdx=16 then Stmt.Raise.elim (motive_2:=λ_=>Bool) e h f else false
theorem uE{P:Stmt->Prop}{e:Stmt}{f:Option Expr->Option Expr->Pos->Bool}(h:qg e f=true)(k:∀a b c,f a b c=true->P (.Raise a b c)):P e :=
 Stmt.Raise.elim (motive_2:=λe=>qg e f=true->P e) e (bG h) (λa b c h=>k a b c h) h
noncomputable def d6(e:Stmt)(f:List Expr->Expr->Pos->Bool):Bool:=if h:e.ctorIdx=5 then Stmt.Assign.elim (motive_2:=λ_=>Bool) e h f else false
theorem cH{P:Stmt->Prop}{e:Stmt}{f:List Expr->Expr->Pos->Bool}(h:d6 e f=true)(k:∀a b c,f a b c=true->P (.Assign a b c)):P e :=
 Stmt.Assign.elim (motive_2:=λe=>d6 e f=true->P e) e (bG h) (λa b c h=>k a b c h) h
noncomputable def AZ(e:Stmt)(f:Expr->Expr->List Stmt->List Stmt->Pos->Bool):Bool:=if h:e.ctorIdx=9 then Stmt.For.elim (motive_2:=λ_=>Bool) e h f else false
theorem A_{P:Stmt->Prop}{e:Stmt}{f:Expr->Expr->List Stmt->List Stmt->Pos->Bool}(h:AZ e f=true)(k:∀a b c d e,f a b c d e=true->P (.For a b c d e)):P e :=
 Stmt.For.elim (motive_2:=λe=>AZ e f=true->P e) e (bG h) (λa b c d e h=>k a b c d e h) h
noncomputable def Jp(e:Stmt)(f:Expr->List Stmt->List Stmt->Pos->Bool):Bool:=if h:e.ctorIdx=12 then Stmt.If.elim (motive_2:=λ_=>Bool) e h f else false
theorem v9{P:Stmt->Prop}{e:Stmt}{f:Expr->List Stmt->List Stmt->Pos->Bool}(h:Jp e f=true)(k:∀a b c d,f a b c d=true->P (.If a b c d)):P e :=
 Stmt.If.elim (motive_2:=λe=>Jp e f=true->P e) e (bG h) (λa b c d h=>k a b c d h) h
noncomputable def qh(e:Stmt)(f:Expr->Pos->Bool):Bool:=if h:e.ctorIdx=24 then Stmt.Expr.elim (motive_2:=λ_=>Bool) e h f else false
theorem kz{P:Stmt->Prop}{e:Stmt}{f:Expr->Pos->Bool}(h:qh e f=true)(k:∀a b,f a b=true->P (.Expr a b)):P e :=
 Stmt.Expr.elim (motive_2:=λe=>qh e f=true->P e) e (bG h) (λa b h=>k a b h) h
noncomputable def uF(e:Stmt)(f:Pos->Bool):Bool:=if h:e.ctorIdx=25 then Stmt.Pass.elim (motive_2:=λ_=>Bool) e h f else false
theorem oE{P:Stmt->Prop}{e:Stmt}{f:Pos->Bool}(h:uF e f=true)(k:∀a,f a=true->P (.Pass a)):P e :=
 Stmt.Pass.elim (motive_2:=λe=>uF e f=true->P e) e (bG h) (λa h=>k a h) h
noncomputable def qj(e:Stmt)(f:Pos->Bool):Bool:=if h:e.ctorIdx=26 then Stmt.Break.elim (motive_2:=λ_=>Bool) e h f else false
theorem uG{P:Stmt->Prop}{e:Stmt}{f:Pos->Bool}(h:qj e f=true)(k:∀a,f a=true->P (.Break a)):P e :=
 Stmt.Break.elim (motive_2:=λe=>qj e f=true->P e) e (bG h) (λa h=>k a h) h
noncomputable def jd(e:Stmt)(f:Pos->Bool):Bool:=if h:e.ctorIdx=27 then Stmt.Continue.elim (motive_2:=λ_=>Bool) e h f else false
theorem nH{P:Stmt->Prop}{e:Stmt}{f:Pos->Bool}(h:jd e f=true)(k:∀a,f a=true->P (.Continue a)):P e :=
 Stmt.Continue.elim (motive_2:=λe=>jd e f=true->P e) e (bG h) (λa h=>k a h) h
def EG:Const->Bool
 | .none=>true
 | _=>false
def isNone(e:Expr):Bool:=dc e λc _ _=>EG c
def EH:Const->Bool
 | .bool true=>true
 | _=>false
def qo(e:Expr):Bool:=dc e λc _ _=>EH c
def v_:BoolOp->Bool
 | .And=>true
 | .Or=>false
def Jq:UnaryOp->Bool
 | .USub=>true
 | _=>false
def Gk:UnaryOp->Bool
 | .Not=>true
 | _=>false
def gu(e:Expr):Bool:=!Nat.beq e.ctorIdx 26
noncomputable def ir(e:Expr):Bool:=[23,16,21,24,25,19,2].contains e.ctorIdx
def gY(e:Expr):Bool:=!(dR e λf as ks _=>Nat.beq f.ctorIdx 23&&as.isEmpty&&ks.isEmpty)
def aE(e:Expr):Bool:=!Nat.beq e.ctorIdx 22
noncomputable def Ba:Bi->Str
 | .len => "len" | .max2 => "max" | .min2 => "min" | .mr => "int" | .list1 => "list" | .tuple1 => "tuple" | .iI => "repr" | .iJ _ => "isinstance" | .all1 => "all" | .Ee => "any" | .vS => "dict" | .min1 => "min" | .Ef => "max" | .vT => "sorted" | .str1 => "str"
noncomputable def Bb:Me->Str
 | .append => "append" | .insert => "insert" | .reverse => "reverse" | .extend => "extend" | .remove => "remove" | .clear => "clear" | .pop => "pop"
noncomputable def cI:List Str:=["len","max","min","int","list","tuple","repr","isinstance","all","any","bool","str","dict","range","enumerate","zip","sorted","set"]
noncomputable def N7:Me->Bool
 | .append=>true | .insert=>true | .reverse=>false | .extend=>false | .remove=>false | .clear=>false | .pop=>false
noncomputable def N8:Bi->Bool
 | .Ee=>false
 | .Ef=>false
 | .min2=>false
 | .vS=>false
 | .vT=>false
 | .iJ _=>false
 | _=>true
def isStr(k:Str):Const->Bool
 | .str s=>k==s
 | _=>false
def jB:List Str->List (Option Expr)->Bool
 | [],[]=>true
 | k::ks,some e::es=>(dc e λc _ _=>isStr k c)&&jB ks es
 | _,_=>false
noncomputable def eE(sc:Scope):List Str:=(sc.names.filter λy=>y.2 == .local||y.2 == .free||y.2 == .cell).map (·.1)
def mG(cc:CC)(sc:Scope):List (Option Nat):=(eE sc).map λx=>if sc.names.lookup x==some .free then cc.N.findIdx? (· == x) else none
def oF(cc:CC)(sc:Scope):CC:=⟨eE sc,sc.names,cc.fs,cc.gs,EF⟩
def sD(cc:CC)(sc:Scope):Bool:=sc.kind == .function&&sc.names.all (λy=>y.2 != .cell||sc.names.lookup y.1==some .cell)&&sc.names.all (λy=>y.2 != .local||sc.names.lookup y.1==some .local)&&decide (eE sc).Nodup &&
 sc.names.all (λy=>y.2 != .free||(sc.names.lookup y.1==some .free&&(cc.names.lookup y.1==some .cell||cc.names.lookup y.1==some .free)))
def jC(cc:CC):List Nat->List Expr->Bool
 | [],[]=>true
 | i::tg,e::es=>(bH e λx _=>cc.N[i]? == some x&&(cc.names.lookup x==some .local||cc.names.lookup x==some .cell))&&jC cc tg es
 | _,_=>false
def gZ(cc:CC)(tg:List Nat)(e:Expr):Bool:=match tg with
 | []=>false
 | [i]=>jC cc [i] [e]
 | i::j::r=>iq e λes _ _=>jC cc (i::j::r) es&&decide ((i::j::r).length<20)
def iu(e:Expr):Bool:=Nat.beq e.ctorIdx 25
def fL(e:Expr):Bool:=!Nat.beq e.ctorIdx 7
noncomputable def S2:D->Const->Bool
 | .int i,.int j=>i==j
 | .bl i,.bool j=>i==j
 | .str i,.str j=>i==j
 | .aK,.none=>true
 | _,_=>false
noncomputable def Jr:D->Const->Bool
 | .int i,.int j=>i == -j
 | _,_=>false
def Bc(d:D)(e:Expr):Bool:=(dc e λc _ _=>S2 d c)||gc e λop x _=>Jq op&&dc x λc _ _=>Jr d c
def Bd:Bi->Option Ty
 | .iJ t=>some t
 | _=>none
theorem uH{b:Bi}{t:Ty}(h:Bd b=some t):b=.iJ t:=by
 cases b<;>first | (cases h;rfl) | cases h
def wa(cc:CC):List Str->List Expr->Bool
 | [],[]=>true
 | x::xs,e::es=>(bH e λy _=>y==x&&glob cc y&&aQ y)&&wa cc xs es
 | _,_=>false
def Gm(cc:CC):IX->Expr->Bool
 | .one x,e=>bH e λy _=>y==x&&glob cc y&&aQ y
 | .ve,e=>bH e λy _=>y == "ValueError" && glob cc y
 | .many xs,e=>iq e λes _ _=>wa cc xs es&&decide (xs.length<100)
mutual
noncomputable def bw(cc:CC):C->Expr->Bool
 | .eO i,e=>bH e λx _=>cc.N[i]? == some x&&Lo cc x&&aQ x
 | .aN d,e=>Bc d e
 | .bin op a b,e=>p5 e λl o r _=>o==Ep op&&bw cc a l&&bw cc b r
 | .cmp op a b,e=>eU e λl os rs _=>match os,rs with
  | [o],[r]=>o==Jc op && !behindInMarks o r&&(if op=.mq\/op=.gF then isNone r else true)&&bw cc a l&&bw cc b r
  | _,_=>false
 | .chain o1 o2 a b c,e=>eU e λl os rs _=>match os,rs with
  | [p,q],[m,r]=>p==Jc o1&&q==Jc o2 && !lastMarks [p,q] [m,r] && !(decide (o1=.mq)||decide (o1=.gF)||decide (o2=.mq)||decide (o2=.gF))&&bw cc a l&&bw cc b m&&bw cc c r
  | _,_=>false
 | .cw cs,e=>f_ e λop es _=>v_ op&&bu cc cs es && !es.isEmpty
 | .bU cs,e=>f_ e λop es _=>!v_ op&&bu cc cs es && !es.isEmpty
 | .neg a,e=>gc e λop x _=>Gk op&&bw cc a x
 | .tup cs,e=>iq e λes _ _=>bu cc cs es
 | .lst cs,e=>uC e λes _=>bu cc cs es
 | .sub a b,e=>dg e λe i _=>gu i&&bw cc a e&&bw cc b i
 | .gH a lo hi,e=>dg e λe i _=>p_ i λl h st _=>st.isNone&&bw cc a e&&Js cc lo l&&Js cc hi h
 | .fV a b,e=>dR e λfe args d7 cp=>d5 fe λe n ap=>match args,d7 with
  | [x],[]=>n == "find" && ap.endLine==cp.line&&gY e&&aE x&&bw cc a e&&bw cc b x
  | _,_=>false
 | .call f cs,e=>dR e λfe args d7 _=>bH fe λx _=>match args,d7 with
  | e::es,[]=>cc.fs[f]? == some (x,cs.length)&&glob cc x&&aQ x&&bu cc cs (e::es)
  | _,_=>false
 | .xf a f,e=>d5 e λe n _=>n==f&&(bH e λ_ _=>true)&&bw cc a e
 | .ow a k tb,e=>dR e λfe args d7 _=>bH fe λx _=>match args,d7 with
  | [u,v],[]=>x == "isinstance" && glob cc x&&aE u&&bw cc a u&&Gm cc k v&&tb.all λp=>cc.xs.kt.contains (k,p.1,p.2)
  | _,_=>false
 | .fX f cs,e=>dR e λfe args d7 _=>bH fe λx _=>match args,d7 with
  | e::es,[]=>cc.fs[f]? == some (x,cs.length)&&cc.xs.hs.contains f&&glob cc x&&aQ x&&bu cc cs (e::es)
  | _,_=>false
 | .bi b cs,e=>dR e λfe args d7 _=>bH fe λx _=>d7.isEmpty&&x==Ba b&&glob cc x&&match Bd b,args with
  | some t,[e,f]=>(bH f λy _=>y==Str.ofString (sC t)&&glob cc y&&decide (t≠.none))&&bu cc cs [e]
  | none,e::es=>N8 b&&bu cc cs (e::es)
  | _,_=>false
 | .me m o cs,e=>dR e λfe es d7 cp=>d5 fe λe n ap=>d7.isEmpty&&n==Bb m&&N7 m&&ap.endLine==cp.line&&gY e&&bw cc o e&&bu cc cs es&&decide (es.length<20)
 | .vU ks cs,e=>p9 e λkeys vs _=>(jB ks keys&&decide ks.Nodup && !keys.isEmpty&&decide (keys.length<=15)&&bu cc cs vs&&decide (ks.length=cs.length))||(ks.isEmpty&&cs.isEmpty&&keys.isEmpty&&vs.isEmpty)
 | .jV tp cs,e=>false
 | .qT x v,e=>bH e λy _=>y==x&&glob cc x&&aQ x&&cc.gs.lookup x==some v
 | .fc ng a,e=>eU e λl os rs _=>match os,rs with
  | [o],[r]=>o==(if ng=true then CmpOp.IsNot else CmpOp.Is) && !behindInMarks o r&&qo r&&bw cc a l
  | _,_=>false
 | .lx,e=>p9 e λkeys vs _=>keys.isEmpty&&vs.isEmpty
 | .fW ng a b,e=>eU e λl os rs _=>match os,rs with
  | [o],[r]=>o==(if ng=true then CmpOp.NotIn else CmpOp.In) && !behindInMarks o r&&bw cc a l&&bw cc b r
  | _,_=>false
 | .comp k cU tg cond elt cz,e=>gq e λel gens sc _=>match gens with
  | [⟨t,aH,ifs,as⟩]=>as==0&&sD cc sc&&decide (cz=mG cc sc)&&qp cc k cU t aH&&gZ (oF cc sc) tg t&&EI (oF cc sc) cond ifs&&bw (oF cc sc) elt el
  | _=>false
noncomputable def EI(cc:CC):Option eh->List Expr->Bool
 | none,[]=>true
 | some t,[e]=>jD cc t e
 | _,_=>false
noncomputable def qp(cc:CC):SK->List C->Expr->Expr->Bool
 | .seq,[c],_,e=>fL e&&bw cc c e
 | .fb,[c],_,e=>dR e λfe args d7 _=>bH fe λx _=>match args,d7 with
  | [a],[]=>x == "range" && glob cc x&&aE a&&bw cc c a
  | _,_=>false
 | .enum,[c],t,e=>dR e λfe args d7 _=>bH fe λx _=>match args,d7 with
  | [a],[]=>x == "enumerate" && iu t&&glob cc x&&aE a&&bw cc c a
  | _,_=>false
 | _,_,_,_=>false
noncomputable def jD(cc:CC):eh->Expr->Bool
 | .cw ts,e=>f_ e λop es _=>v_ op&&mH cc ts es && !es.isEmpty
 | .bU ts,e=>f_ e λop es _=>!v_ op&&mH cc ts es && !es.isEmpty
 | .neg a,e=>gc e λop x _=>Gk op&&jD cc a x
 | .val (.cmp op a b),e=>bw cc (.cmp op a b) e
 | .val (.chain o1 o2 a b c),e=>bw cc (.chain o1 o2 a b c) e
 | .val (.fc ng a),e=>bw cc (.fc ng a) e
 | .val (.fW ng a b),e=>bw cc (.fW ng a b) e
 | .val c,e=>ir e&&bw cc c e
noncomputable def mH(cc:CC):List eh->List Expr->Bool
 | [],[]=>true
 | c::cs,e::es=>jD cc c e&&mH cc cs es
 | _,_=>false
noncomputable def bu(cc:CC):List C->List Expr->Bool
 | [],[]=>true
 | c::cs,e::es=>aE e&&bw cc c e&&bu cc cs es
 | _,_=>false
noncomputable def Js(cc:CC):Option C->Option Expr->Bool
 | none,none=>true
 | some c,some e=>bw cc c e
 | _,_=>false
end
end
noncomputable def Jt(X:Cx)(x:Str):NameKind->Prop
 | .local=>X.env.kindOf x=some .local
 | .cell=>X.env.kindOf x=some .cell
 | .free=>X.env.kindOf x=some .cell\/X.env.kindOf x=some .free
 | .globalImplicit=>X.env.kindOf x=some .globalImplicit
 | _=>True
def yN(K:PySem.W.Frag)(n:Nat)(F:List D->ag->bF W):Sp:=λvs H Q E=>∃ads M ds,aD K ads H M/\aT K ads H ds vs/\ds.length=n/\@bQ (AD E) K ads H Q (F ds M)
noncomputable def sE(K:PySem.W.Frag)(mg:Str->Option Value)(k:IX)(C:Addr)(r:Bool):Prop:=match k with
 | .one x=>∃c,mg x=some (.ref c)/\PySem.W.kitOne K (.ref C) (.ref c)=some r
 | .ve=>mg "ValueError" = none/\PySem.W.kitOne K (.ref C) (.type "ValueError")=some r
 | .many xs=>∃cs:List Addr,xs.map mg=cs.map (λc=>some (.ref c))/\PySem.W.kitAny K (.ref C) (cs.map Value.ref)=some r
noncomputable def wb(K:PySem.W.Frag)(mg:Str->Option Value)(cb:Str)(C:Addr)(fs:List Str):Prop:=∃B D fI,mg cb=some (.ref B)/\PySem.W.kitCls K (.ref C) (.ref B)=some true/\PySem.W.kitCls K (.ref B) (.type "BaseException")=some true/\pR K C D fI fs
structure bW (kk:Nat) (X:Cx) (cc:CC) (G:a9):Prop where
 rh:vR kk X.A
 N:X.N=cc.N
 nd:cc.N.Nodup
 kinds:∀x k,cc.names.lookup x=some k->Jt X x k
 S3:∀x,cc.names.lookup x=some .cell->X.fn x=true
 blt:∀b∈cI,X.mg b=none
 Qm:∀(x:Str)(v:Int),cc.gs.lookup x=some v->∃t,X.mg x=some (.int v t)
 S4:∀k C r,(k,C,r)∈cc.xs.kt->sE X.K X.mg k C r
 cat:∀cb C fs,(cb,C,fs)∈cc.xs.ct->wb X.K X.mg cb C fs
 Ju:∀(i:Nat)(x:Str)(n:Nat),cc.fs[i]?=some (x,n)->i∈cc.xs.hs->∃f fd ps,se X.prog X.w X.K X.mg X.base y9 kk f fd ps (yN X.K n (G i))/\X.mg x=some (.ref f)/\PySem.W.keepIn X.K (.ref f)=true/\Binds X.K fd ps []
section
variable [EX]
structure Good (kk:Nat) (X:Cx) (cc:CC) (G:a9):Prop extends cC:bW kk X cc G where
 calm:X.calm=true
 room:fF kk X.A
 fns:∀(i:Nat)(x:Str)(n:Nat),cc.fs[i]?=some (x,n)->∃f fd ps,eZ X.prog X.w X.K X.mg X.base (yA X.prog X.w) kk f fd ps (yN X.K n (G i))/\X.mg x=some (.ref f)/\PySem.W.keepIn X.K (.ref f)=true/\Binds X.K fd ps []
 ex:∃E:XK,iX (yA X.prog X.w) X E/\∀{K:PySem.W.Frag}{ads:List Addr}{H:Hp}{x:tQ}{M:ag},EX.post K ads H x M->(AD E).post K ads H x M
section
variable {kk:Nat} {X:Cx} {cc:CC} {G:a9}
theorem bW.Lo(g:bW kk X cc G){x:Str}(h:Lo cc x=true):PX X.env.scope x:=by
 unfold Ev.Lo at h;split at h
 ·rename_i q;exact .inl (g.kinds x _ q)
 ·rename_i q;exact .inr (.inl (g.kinds x _ q))
 ·rename_i q
  rcases g.kinds x _ q with z | z
  ·exact .inr (.inl z)
  ·exact .inr (.inr z)
 ·cases h
theorem bW.gl(g:bW kk X cc G){x:Str}(h:glob cc x=true):Gl X x:=by
 unfold glob at h;split at h
 ·rename_i q;exact g.kinds x _ q
 ·cases h
theorem cP{x:Str}(h:aQ x=true):(x==("__debug__" : Str))=false/\(x==("__classdict__" : Str))=false/\x≠("__name__" : Str):=by
 unfold aQ at h;simp only[av,gh]at h;exact⟨h.1.1,h.1.2,λz=>by rw[z]at h;simp at h⟩
theorem fj{e:Expr}{t u:TE}(h:PE X e t)(f:∀σ H Q,u σ H Q->t σ H Q):PE X e u:=λaa s σ H Q I q=>h aa s σ H Q I (f σ H Q q)
theorem ze{e:Expr}{t u:TT}(h:PT X e t)(f:∀σ H Q,u σ H Q->t σ H Q):PT X e u:=λaa s σ H Q I q=>h aa s σ H Q I (f σ H Q q)
theorem Qn{e:Expr}{t u:TT}(h:PW X e t)(f:∀σ H Q,u σ H Q->t σ H Q):PW X e u:=λwh aa s σ H Q I q=>h wh aa s σ H Q I (f σ H Q q)
theorem Lp{e:List Expr}{t u:TA}(h:PA X e t)(f:∀σ H Q,u σ H Q->t σ H Q):PA X e u:=λp aa s σ H Q I q=>h p aa s σ H Q I (f σ H Q q)
theorem bq{e:Expr}(h:aE e=true)(es:List Expr)(env:Env):starEach (e::es) env=(false,eval e env)::starEach es env:=by
 cases e<;>first | rfl | exact absurd (show false=true from h) au
theorem Gn{i:Nat}{e:Expr}(g:bW kk X cc G)(h:bw cc (.eO i) e=true):PE X e (tE X.K (ev G (.eO i))):=by
 refine aF (P:=λe=>PE X e _) h λx pos h=>?_;have h:(cc.N[i]? == some x&&Lo cc x&&aQ x)=true:=h;simp only[av,eB]at h;obtain⟨⟨h1,h2⟩,h3⟩:=h;obtain⟨d1,d2,_⟩:=cP h3;refine fj (lR (i:=i) (by rw[g.N];exact h1) (g.Lo h2) d1 d2) λσ H Q q=>?_;obtain⟨ads,M,ρ,s,q⟩:=q;simp only[AI]at q;split at q
 ·rename_i d e
  obtain⟨v,SV,r⟩:=s.en i d e;exact⟨v,SV,q.plain s.mem r⟩
 ·exact q.elim
theorem sF{d:D}{v:V}(hd:∀ads H,RD X.K ads H d v)(σ:L2.St)(H:Hp)(Q:VK)(h:tE X.K (ev G (.aN d)) σ H Q):tC v σ H Q:=by
 obtain⟨ads,M,ρ,s,q⟩:=h;exact bQ.plain q s.mem (hd _ _)
theorem Go{d:D}{e:Expr}(h:bw cc (.aN d) e=true):PE X e (tE X.K (ev G (.aN d))):=by
 replace h:Bc d e=true:=h
 rcases(Dg _ _).mp h with h | h
 case inr =>
  refine eP (P:=λe=>PE X e _) h λop x pos h=>?_
  replace h:=(av _ _).mp h
  have h0:=h.1
  replace h:=h.2
  cases op<;>first | exact absurd (show false=true from h0) au | skip
  refine cW (P:=λx=>PE X (.UnaryOp .USub x pos) _) h λc j p h=>?_;clear h0;rcases d with _|_ | i | _|_|_|_<;>first | exact absurd (show false=true from h) au | skip
  rcases c with _|_ | k | _|_|_|_|_<;>first | exact absurd (show false=true from h) au | skip
  have h:i=-k:=eq_of_beq h;subst h;exact fj (MH Ic zH) λσ H Q q=>⟨k,rfl,sF (λ_ _=>cB _) σ H Q q⟩
 refine cW (P:=λe=>PE X e _) h λc j pos h=>?_
 cases d with
 | int i =>
  cases c<;>first | exact absurd (show false=true from h) au | skip
  have h:=eq_of_beq (show(i==_)=true from h);subst h;exact fj zH (sF λ_ _=>cB _)
 | bl i =>
  cases c<;>first | exact absurd (show false=true from h) au | skip
  have h:=eq_of_beq (show(i==_)=true from h);subst h;exact fj F4 (sF λ_ _=>gC _)
 | str i =>
  cases c<;>first | exact absurd (show false=true from h) au | skip
  have h:=eq_of_beq (show(i==_)=true from h);subst h;exact fj zI (sF λ_ _=>pY _)
 | aK =>
  cases c<;>first | exact absurd (show false=true from h) au | skip
  exact fj HI (sF λ_ _=>ku)
 | tup _=>cases h
 | aC _=>cases h
 | ls _=>cases h
theorem Gp{op:CO}{a b:C}{e:Expr}(sG:∀e,bw cc a e=true->PE X e (tE X.K (ev G a)))(CQ:∀e,bw cc b e=true->PE X e (tE X.K (ev G b)))(h:bw cc (.bin op a b) e=true):PE X e (tE X.K (ev G (.bin op a b))):=by
 refine uB (P:=λe=>PE X e _) h λl o r pos h=>?_;have h:(o==Ep op&&bw cc a l&&bw cc b r)=true:=h;simp only[av,eB]at h;obtain⟨⟨rfl,h1⟩,h2⟩:=h;refine fj (MG (Jb op) (sG l h1) (CQ r h2)) λσ H Q q=>?_;exact two (λm r1 r2 h=>⟨_,_,_,_,m,r1,r2,h⟩) q
theorem uI{K:PySem.W.Frag}{ads:List Addr}{H:Hp}{Q:VK}{o:bF Bool}(h:bQ K ads H Q (o.bind λr M=>.ok (.d (.bl r)) M)):Et K ads H Q o:=by
 cases o with
 | ok b M=>exact λH' ax g m=>h (.bl b) H' ax g m (show RD K ax H' (.bl b) _ from gC _)
 | err _ _=>exact h
 | ae=>exact h
theorem Be{b:C}{e:Expr}(hn:isNone e=true)(hb:bw cc b e=true):b=.aN .aK:=by
 revert hb;refine cW (P:=λe=>bw cc b e=true->b=.aN .aK) hn λc j pos hn hb=>?_;cases c<;>first | cases hn | skip
 cases b<;>first | exact absurd (show false=true from hb) au | skip
 rename_i d
 cases d<;>first | rfl | exact absurd (show false=true from hb) au
theorem wc{op:yE}{a b:C}{e:Expr}(g:bW kk X cc G)(sG:∀e,bw cc a e=true->PE X e (tE X.K (ev G a)))(CQ:∀e,bw cc b e=true->PE X e (tE X.K (ev G b)))(h:bw cc (.cmp op a b) e=true):PE X e (tE X.K (ev G (.cmp op a b)))/\PT X e (gR (tE X.K (ev G (.cmp op a b)))):=by
 refine eQ (P:=λe=>PE X e (tE X.K (ev G (.cmp op a b)))/\PT X e (gR (tE X.K (ev G (.cmp op a b))))) h λl ops rs pos h=>?_;rcases ops with _|⟨o,_|⟨o2,ops⟩⟩<;>rcases rs with _|⟨r,_|⟨r2,rs⟩⟩<;>first | exact absurd (show false=true from h) au | skip
 have h:(o==Jc op && !behindInMarks o r&&(if op=.mq\/op=.gF then isNone r else true)&&bw cc a l&&bw cc b r)=true:=h;simp only[av,eB,gh]at h;obtain⟨⟨⟨⟨rfl,hm⟩,hn⟩,h1⟩,h2⟩:=h;have Ln:=g.rh.un
 have nu:∀σ H Q,tE X.K (ev G (.cmp op a b)) σ H Q->CL (Eu X.K op) (tE X.K (ev G a)) (tE X.K (ev G b)) σ H Q:=by
  intro σ H Q q;by_cases Ve:op=.mq\/op=.gF
  ·rw[aU Ve]at hn;have eb:=Be hn h2;subst eb;obtain⟨ads,M,ρ,s,q⟩:=q;refine cN s q λw M1 v H1 ah s1 kg q1=>⟨ah,M1,ρ,s1,?_⟩;intro vy H2 aM g2 m2 ry;have ey:=mF ry;refine⟨aM,M1,w,.d .aK,m2,g2.rw kg,(show RD X.K aM H2 .aK vy by rw[ey];exact ku),λ_=>ey,?_⟩;have q1:bQ X.K ah H1 Q ((bp op w (.d .aK) M1).bind λr M=>.ok (.d (.bl r)) M):=q1;exact uI (q1.shift g2 s1.mem m2)
  ·exact two (λm r1 r2 h=>⟨_,_,_,_,m,r1,r2,λz=>absurd z Ve,uI h⟩) q
 exact⟨fj (lA (kx ∅ op) (sG l h1) (CQ r h2) hm) nu,ze (lB (kx ∅ op) (sG l h1) (CQ r h2) hm) λσ H Q q=>nu σ H _ q⟩
theorem Gq{a:C}{e:Expr}(sG:∀e,bw cc a e=true->PE X e (tE X.K (ev G a)))(h:bw cc (.neg a) e=true):PE X e (tE X.K (ev G (.neg a))):=by
 refine eP (P:=λe=>PE X e _) h λop x pos h=>?_;obtain⟨h0,h⟩:=(av _ _).mp h;cases op<;>first | exact absurd (show false=true from h0) au | skip
 refine fj (HN (sG x h)) λσ H Q q=>?_;obtain⟨ads,M,ρ,s,q⟩:=q;refine cN s q λw M1 v H1 ah s1 kg q1=>?_;rcases w with⟨_ | b | _|_|_|_⟩|_<;>first | exact q1.elim | skip
 exact⟨b,iN kg,bQ.plain q1 s1.mem (gC _)⟩
theorem Gr{cs:List C}{e:Expr}(ih:∀es,bu cc cs es=true->PA X es (zd X.K (a8 G cs)))(h:bw cc (.tup cs) e=true):PE X e (tE X.K (ev G (.tup cs))):=by
 refine ff (P:=λe=>PE X e _) h λes k pos h=>?_;refine fj (zX (ih es h)) λσ H Q q=>?_;obtain⟨ads,M,ρ,s,q⟩:=q;refine⟨ads,M,ρ,s,?_⟩;simp only[AK]at q
 cases hq:a8 G cs ρ M with
 | ok ds M1 =>
  rw[hq]at q;have q:bQ X.K ads H Q (if ds.length<=sizeLine then .ok (.d (.tup ds)) M1 else .ae):=q;intro vs H1 ah g1 m1 r1;split at q
  ·rename_i hz
   exact⟨by rw[<- r1.len];exact hz,λp hp=>(q.shift g1 s.mem m1).tuple m1 r1 hp⟩
  ·exact q.elim
 | err _ _=>rw[hq]at q;exact q
 | ae=>rw[hq]at q;exact q
theorem Gs{cs:List C}{e:Expr}(ih:∀es,bu cc cs es=true->PA X es (zd X.K (a8 G cs)))(h:bw cc (.lst cs) e=true):PE X e (tE X.K (ev G (.lst cs))):=by
 refine yM (P:=λe=>PE X e _) h λes pos h=>?_;refine fj (Ii (ih es h)) λσ H Q q=>?_;obtain⟨ads,M,ρ,s,q⟩:=q;refine⟨ads,M,ρ,s,?_⟩;simp only[AM]at q
 cases hq:a8 G cs ρ M with
 | ok ds M1 =>
  rw[hq]at q;have q:bQ X.K ads H Q (if ds.length<=sizeLine then .ok (.lv ds) M1 else .ae):=q;intro vs H1 ah g1 m1 r1;split at q
  ·rename_i hz
   exact⟨by rw[<- r1.len];exact hz,λp hp=>(q.shift g1 s.mem m1).list m1 r1 hp⟩
  ·exact q.elim
 | err _ _=>rw[hq]at q;exact q
 | ae=>rw[hq]at q;exact q
theorem kA{K:PySem.W.Frag}{ads ax:List Addr}{H H':Hp}{w:W}{v:V}{M1:ag}{d:D}{M2:ag}(m:aD K ads H M)(g:ay ads ax H H')(m1:aD K ax H' M1)(r:Eo K ax H H' w v)(e:own w M1=.ok d M2):∃aM,ay ads aM H H'/\aD K aM H' M2/\RD K aM H' d v:=by
 cases w with
 | d x=>cases e;exact⟨ax,g,m1,r⟩
 | lv ds =>
  cases e;obtain⟨a,xs,rfl,h0,h1,n,r⟩:=r;refine⟨ax++[a],⟨?_,λb hb nb=>?_,g.kept,g.fQ,g.gA⟩,m1.push n ⟨xs,h1,r⟩,?_⟩
  ·obtain⟨t,e⟩:=g.pre;exact⟨t++[a],by rw[e,xF]⟩
  ·rcases gO.mp hb with z | z
   ·exact g.new b z nb
   ·have:b=a:=by simpa using z
    subst this;exact h0
  ·unfold RD;exact⟨a,rfl,by rw[m9 (by rw[m1.len];exact ar _)];simp[m1.len]⟩
theorem Gu:PA X [] (zd X.K (a8 G [])):=Lp iW λσ H Q q=>by
 obtain⟨ads,M,ρ,s,q⟩:=q;exact q [] H ads (ay.refl _ _) s.mem (by unfold aT;rfl)
theorem Bf{c:C}{cs:List C}{e:Expr}{es:List Expr}(hs:aE e=true)(ha:PE X e (tE X.K (ev G c)))(hr:PA X es (zd X.K (a8 G cs))):PA X (e::es) (zd X.K (a8 G (c::cs))):=by
 refine Lp (eL ha hr (bq hs es X.env)) λσ H Q q=>?_;obtain⟨ads,M,ρ,s,q⟩:=q;refine⟨ads,M,ρ,s,?_⟩;simp only[fY,eT]at q
 cases hq:ev G c ρ M with
 | ok w M1 =>
  rw[hq]at q;intro v H1 ah g1 m1 r1
  cases ho:own w M1 with
  | ok d M2 =>
   have q:sv X.K ads H Q ((own w M1).bind λd M=>(a8 G cs ρ M).bind λds M=>.ok (d::ds) M):=q;rw[ho]at q;obtain⟨aM,g2,m2,rd⟩:=kA s.mem g1 m1 r1 ho;refine⟨aM,M2,ρ,s.grow g2 m2,?_⟩;have q:sv X.K ads H Q ((a8 G cs ρ M2).bind λds M=>.ok (d::ds) M):=q
   cases Bg:a8 G cs ρ M2 with
   | ok ds M3 =>
    rw[Bg]at q;intro vs H3 cQ g3 m3 r3;refine q (v::vs) H3 cQ (g2.trans g3) m3 ?_;unfold aT;exact⟨v,vs,rfl,g3.rd _ _ rd,r3⟩
   | err _ _=>rw[Bg]at q;exact EX.shift (show EX.post X.K ads H _ _ from q) g2
   | ae=>rw[Bg]at q;exact q
  | err _ _=>cases w<;>cases ho
  | ae=>cases w<;>cases ho
 | err _ _=>rw[hq]at q;exact q
 | ae=>rw[hq]at q;exact q
end
end
section
variable [EX]
section
variable {kk:Nat} {X:Cx} {cc:CC} {G:a9}
theorem we{o1 o2:yE}{a b c:C}{e:Expr}(g:bW kk X cc G)(sG:∀e,bw cc a e=true->PE X e (tE X.K (ev G a)))(CQ:∀e,bw cc b e=true->PE X e (tE X.K (ev G b)))(Qo:∀e,bw cc c e=true->PE X e (tE X.K (ev G c)))(h:bw cc (.chain o1 o2 a b c) e=true):PE X e (tE X.K (ev G (.chain o1 o2 a b c)))/\PT X e (gR (tE X.K (ev G (.chain o1 o2 a b c)))):=by
 refine eQ (P:=λe=>PE X e (tE X.K (ev G (.chain o1 o2 a b c)))/\PT X e (gR (tE X.K (ev G (.chain o1 o2 a b c))))) h λl ops rs pos h=>?_;rcases ops with _|⟨p,_|⟨q,_|⟨_,ops⟩⟩⟩<;>rcases rs with _|⟨m,_|⟨r,_|⟨_,rs⟩⟩⟩<;>first | exact absurd (show false=true from h) au | skip
 have h:(p==Jc o1&&q==Jc o2 && !lastMarks [p,q] [m,r] && !(decide (o1=.mq)||decide (o1=.gF)||decide (o2=.mq)||decide (o2=.gF))&&bw cc a l&&bw cc b m&&bw cc c r)=true:=h;simp only[av,eB,gh,Hl,decide_eq_false_iff_not]at h;obtain⟨⟨⟨⟨⟨⟨rfl,rfl⟩,hm⟩,⟨⟨⟨n1,n2⟩,n3⟩,n4⟩⟩,h1⟩,h2⟩,h3⟩:=h;have Ln:=g.rh.un
 have nu:∀σ H Q,tE X.K (ev G (.chain o1 o2 a b c)) σ H Q->t_ (Eu X.K o1) (Eu X.K o2) (tE X.K (ev G a)) (tE X.K (ev G b)) (tE X.K (ev G c)) σ H Q:=by
  intro σ H Q q;obtain⟨ads,M,ρ,s,q⟩:=q;refine cN s q λx M1 v H1 ah s1 rx q1=>?_;refine⟨ah,M1,ρ,s1,?_⟩
  cases hq:ev G b ρ M1 with
  | ok y M2 =>
   rw[hq]at q1;intro vy H2 aM g2 m2 ry;have q2:bQ X.K ah H1 Q ((bp o1 x y M2).bind λr M=>if r then (ev G c ρ M).bind λz M=>(bp o2 y z M).bind λr M=>.ok (.d (.bl r)) M else .ok (.d (.bl false)) M):=q1;have s2:=s1.grow g2 m2;refine⟨aM,M2,x,y,m2,g2.rw rx,ry.rw,λz=>absurd z (by simp[n1,n2]),?_⟩
   cases hc:bp o1 x y M2 with
   | ok k M3 =>
    rw[hc]at q2;intro H3 cQ g3 m3;have s3:=s2.grow g3 m3;have W3:=g3.rw ry.rw;refine⟨k,rfl,?_⟩;have q3:bQ X.K cQ H3 Q (if k then (ev G c ρ M3).bind λz M=>(bp o2 y z M).bind λr M=>.ok (.d (.bl r)) M else .ok (.d (.bl false)) M3):=bQ.shift q2 (g2.trans g3) s1.mem m3
    cases k with
    | false=>rw[aX (by simp)]at q3⊢;exact bQ.plain q3 m3 (gC _)
    | true =>
     rw[aU rfl]at q3⊢;refine⟨cQ,M3,ρ,s3,?_⟩
     cases hz:ev G c ρ M3 with
     | ok z M4 =>
      rw[hz]at q3;intro vz H4 yO g4 m4 rz;exact⟨yO,M4,y,z,m4,g4.rw W3,rz.rw,λw=>absurd w (by simp[n3,n4]),uI (bQ.shift (o:=(bp o2 y z M4).bind λr M=>.ok (.d (.bl r)) M) q3 g4 m3 m4)⟩
     | err _ _=>rw[hz]at q3;exact q3
     | ae=>rw[hz]at q3;exact q3
   | err _ _=>rw[hc]at q2;exact EX.shift (show EX.post X.K ah H1 _ _ from q2) g2
   | ae=>rw[hc]at q2;exact q2
  | err _ _=>rw[hq]at q1;exact q1
  | ae=>rw[hq]at q1;exact q1
 exact⟨fj (zT (kx ∅ o1) (kx ∅ o2) (sG l h1) (CQ m h2) (Qo r h3) hm) nu,ze (zU (kx ∅ o1) (kx ∅ o2) (sG l h1) (CQ m h2) (Qo r h3) hm) λσ H Q q=>nu σ H _ q⟩
theorem yP{P:Expr->Prop}{e:Expr}(h:qo e=true)(k:∀j p,P (.Constant (.bool true) j p)):P e:=cW (P:=P) h λc j p h=>by
 rcases c with _ | b | _|_|_|_|_|_<;>first | exact absurd (show false=true from h) au | skip
 cases b with
 | true=>exact k j p
 | false=>exact absurd (show false=true from h) au
theorem sH{ng:Bool}{a:C}{σ:L2.St}{H:Hp}{Q:VK}(q:tE X.K (ev G (.fc ng a)) σ H Q):CL (λx y H Q=>∃b c,x=.bl b/\y=.bl c/\Q (.bl (ng != (b==c))) H) (tE X.K (ev G a)) (tC (.bl true)) σ H Q:=by
 obtain⟨ads,M,ρ,s,q⟩:=q;refine cN s q λw M1 v H1 ah s1 kg q1=>?_;rcases w with⟨_ | b | _|_|_|_|_⟩|_<;>first | exact q1.elim | skip
 refine⟨b,true,iN kg,rfl,?_⟩;rw[show(b==true)=b from by cases b<;>rfl];exact bQ.plain q1 s1.mem (gC _)
theorem qq{ng:Bool}{a:C}{e:Expr}(sG:∀e,bw cc a e=true->PE X e (tE X.K (ev G a)))(h:bw cc (.fc ng a) e=true):PE X e (tE X.K (ev G (.fc ng a)))/\PT X e (gR (tE X.K (ev G (.fc ng a)))):=by
 refine eQ (P:=λe=>PE X e (tE X.K (ev G (.fc ng a)))/\PT X e (gR (tE X.K (ev G (.fc ng a))))) h λl ops rs pos h=>?_;rcases ops with _|⟨o,_|⟨o2,ops⟩⟩<;>rcases rs with _|⟨r,_|⟨r2,rs⟩⟩<;>first | exact absurd (show false=true from h) au | skip
 have h:(o==(if ng=true then CmpOp.IsNot else CmpOp.Is) && !behindInMarks o r&&qo r&&bw cc a l)=true:=h;simp only[av,eB,gh]at h;obtain⟨⟨⟨ho,hm⟩,hr⟩,h1⟩:=h;have pc:PE X r (tC (.bl true)):=yP (P:=λr=>PE X r (tC (.bl true))) hr λj p=>F4
 cases ng with
 | true =>
  have ho:o=.IsNot:=ho;subst ho
  have nu:∀σ H Q,tE X.K (ev G (.fc true a)) σ H Q->CL (λx y H Q=>∃b c,x=.bl b/\y=.bl c/\Q (.bl (!(b==c))) H) (tE X.K (ev G a)) (tC (.bl true)) σ H Q:=λσ H Q q=>by
   have:=sH q;simp only[Bool.true_bne]at this;exact this
  exact⟨fj (lA vO (sG l h1) pc hm) nu,ze (lB vO (sG l h1) pc hm) λσ H Q q=>nu σ H _ q⟩
 | false =>
  have ho:o=.Is:=ho;subst ho
  have nu:∀σ H Q,tE X.K (ev G (.fc false a)) σ H Q->CL (λx y H Q=>∃b c,x=.bl b/\y=.bl c/\Q (.bl (b==c)) H) (tE X.K (ev G a)) (tC (.bl true)) σ H Q:=λσ H Q q=>by
   have:=sH q;simp only[Bool.false_bne]at this;exact this
  exact⟨fj (lA Ar (sG l h1) pc hm) nu,ze (lB Ar (sG l h1) pc hm) λσ H Q q=>nu σ H _ q⟩
theorem wg{ng:Bool}{a:C}(ρ:En)(M:ag)(w:W)(M':ag)(h:ev G (.fc ng a) ρ M=.ok w M'):∃k,w=.d (.bl k):=by
 simp only[vY]at h
 cases h1:ev G a ρ M with
 | ok x M1 =>
  rw[h1]at h;rcases x with⟨_ | b | _|_|_|_|_⟩|_<;>first | cases h | skip
  exact⟨_,rfl⟩
 | err _ _=>rw[h1]at h;cases h
 | ae=>rw[h1]at h;cases h
def N9(K:PySem.W.Frag)(ng:Bool):R2:=λx y H Q=>∃ads M wx wy,aD K ads H M/\RW K ads H wx x/\RW K ads H wy y/\bQ K ads H Q (iL ng wx wy M)
theorem Bh(hu:X.A.units+1<cLine)(ng:Bool):ik X (compareOp (if ng=true then CmpOp.NotIn else CmpOp.In)) (N9 X.K ng):=by
 intro aa s σ H x y v u Q I rx ry h;obtain⟨ads,M,wx,wy,m,r1,r2,h⟩:=h;unfold iL at h;split at h
 ·rename_i k ao qk qd
  obtain⟨b,rfl,hb⟩:=v8 r1 qk;obtain⟨a,ks,rfl,ha,rk⟩:=N5 m r2 qd;cases rx;cases ry;obtain⟨o,g,eo⟩:=Jn ha hb rk
  cases ng with
  | true =>
   rw[Bool.true_bne]at h;refine vH hu I g rfl λs' I'=>⟨.bl _,H,I',rfl,?_⟩;rw[eo];exact bQ.plain h m (gC _)
  | false =>
   rw[Bool.false_bne]at h;refine MV hu I g rfl λs' I'=>⟨.bl _,H,I',rfl,?_⟩;rw[eo];exact bQ.plain h m (gC _)
 ·exact h.elim
theorem Gv{ng:Bool}{a b:C}{e:Expr}(g:bW kk X cc G)(sG:∀e,bw cc a e=true->PE X e (tE X.K (ev G a)))(CQ:∀e,bw cc b e=true->PE X e (tE X.K (ev G b)))(h:bw cc (.fW ng a b) e=true):PE X e (tE X.K (ev G (.fW ng a b)))/\PT X e (gR (tE X.K (ev G (.fW ng a b)))):=by
 refine eQ (P:=λe=>PE X e (tE X.K (ev G (.fW ng a b)))/\PT X e (gR (tE X.K (ev G (.fW ng a b))))) h λl ops rs pos h=>?_;rcases ops with _|⟨o,_|⟨o2,ops⟩⟩<;>rcases rs with _|⟨r,_|⟨r2,rs⟩⟩<;>first | exact absurd (show false=true from h) au | skip
 have h:(o==(if ng=true then CmpOp.NotIn else CmpOp.In) && !behindInMarks o r&&bw cc a l&&bw cc b r)=true:=h;simp only[av,eB,gh]at h;obtain⟨⟨⟨rfl,hm⟩,h1⟩,h2⟩:=h;have Ln:=g.rh.un;have nu:∀σ H Q,tE X.K (ev G (.fW ng a b)) σ H Q->CL (N9 X.K ng) (tE X.K (ev G a)) (tE X.K (ev G b)) σ H Q:=λσ H Q q=>two (λm r1 r2 h=>⟨_,_,_,_,m,r1,r2,h⟩) q;exact⟨fj (lA (Bh ∅ ng) (sG l h1) (CQ r h2) hm) nu,ze (lB (Bh ∅ ng) (sG l h1) (CQ r h2) hm) λσ H Q q=>nu σ H _ q⟩
theorem Jv{ng:Bool}{a b:C}(ρ:En)(M:ag)(w:W)(M':ag)(h:ev G (.fW ng a b) ρ M=.ok w M'):∃k,w=.d (.bl k):=by
 simp only[vX]at h
 cases h1:ev G a ρ M with
 | ok x M1 =>
  rw[h1]at h;simp only[bF.bind]at h
  cases h2:ev G b ρ M1 with
  | ok y M2 =>
   rw[h2]at h;have h:iL ng x y M2=.ok w M':=h;unfold iL at h;split at h
   ·cases h;exact⟨_,rfl⟩
   ·cases h
  | err _ _=>rw[h2]at h;cases h
  | ae=>rw[h2]at h;cases h
 | err _ _=>rw[h1]at h;cases h
 | ae=>rw[h1]at h;cases h
theorem Gw{op:BoolOp}:∀(cs:List C)(es:List Expr)(pos:Pos),(∀c∈cs,∀e,bw cc c e=true->PE X e (tE X.K (ev G c)))->bu cc cs es=true->es≠[]->PE X (.BoolOp .And es pos) (tE X.K (iM G cs))
 | [],[],_,_,_,h=>absurd rfl h
 | [],_::_,_,_,h,_=>by cases h
 | _::_,[],_,_,h,_=>by cases h
 | c::cs,e::es,pos,ih,h,_=>by
  have h':(aE e&&bw cc c e&&bu cc cs es)=true:=h;simp only[av]at h';have he:=ih c dD e h'.1.2
  cases es with
  | nil =>
   cases cs with
   | cons _ _=>cases h'.2
   | nil =>
    refine fj (zJ he) λσ H Q q=>?_;obtain⟨ads,M,ρ,s,q⟩:=q;refine⟨ads,M,ρ,s,?_⟩;simp only[kj,ja]at q
    cases hq:ev G c ρ M with
    | ok w M1=>rw[hq]at q;exact q
    | err _ _=>rw[hq]at q;exact q
    | ae=>rw[hq]at q;exact q
  | cons e2 es =>
   cases cs with
   | nil=>cases h'.2
   | cons c2 cs =>
    have hr:=Gw (op:=op) (c2::cs) (e2::es) pos (λc hc=>ih c (dB _ hc)) h'.2 (by simp);refine fj (HM he hr) λσ H Q q=>?_;obtain⟨ads,M,ρ,s,q⟩:=q
    have q:bQ X.K ads H Q ((ev G c ρ M).bind λx M=>match c2::cs,x with
     | [],x=>.ok x M
     | _,.d (.bl true)=>iM G (c2::cs) ρ M
     | _,.d (.bl false)=>.ok (.d (.bl false)) M
     | _,_=>.ae):=by unfold iM at q;exact q
    refine cN s q λw M1 v H1 ah s1 kg q1=>?_;rcases w with⟨_ | b | _|_|_|_⟩|_<;>first | exact q1.elim | skip
    refine⟨b,iN kg,?_⟩
    cases b with
    | false=>rw[aX (by simp)];exact bQ.plain q1 s1.mem (gC _)
    | true=>rw[aU rfl];exact⟨ah,M1,ρ,s1,q1⟩
theorem N_:∀(cs:List C)(es:List Expr)(pos:Pos),(∀c∈cs,∀e,bw cc c e=true->PE X e (tE X.K (ev G c)))->bu cc cs es=true->es≠[]->PE X (.BoolOp .Or es pos) (tE X.K (nG G cs))
 | [],[],_,_,_,h=>absurd rfl h
 | [],_::_,_,_,h,_=>by cases h
 | _::_,[],_,_,h,_=>by cases h
 | c::cs,e::es,pos,ih,h,_=>by
  have h':(aE e&&bw cc c e&&bu cc cs es)=true:=h;simp only[av]at h';have he:=ih c dD e h'.1.2
  cases es with
  | nil =>
   cases cs with
   | cons _ _=>cases h'.2
   | nil =>
    refine fj (zJ he) λσ H Q q=>?_;obtain⟨ads,M,ρ,s,q⟩:=q;refine⟨ads,M,ρ,s,?_⟩;simp only[mx,km]at q
    cases hq:ev G c ρ M with
    | ok w M1=>rw[hq]at q;exact q
    | err _ _=>rw[hq]at q;exact q
    | ae=>rw[hq]at q;exact q
  | cons e2 es =>
   cases cs with
   | nil=>cases h'.2
   | cons c2 cs =>
    have hr:=N_ (c2::cs) (e2::es) pos (λc hc=>ih c (dB _ hc)) h'.2 (by simp);refine fj (Ms he hr) λσ H Q q=>?_;obtain⟨ads,M,ρ,s,q⟩:=q
    have q:bQ X.K ads H Q ((ev G c ρ M).bind λx M=>match c2::cs,x with
     | [],x=>.ok x M
     | _,.d (.bl false)=>nG G (c2::cs) ρ M
     | _,.d (.bl true)=>.ok (.d (.bl true)) M
     | _,_=>.ae):=by unfold nG at q;exact q
    refine cN s q λw M1 v H1 ah s1 kg q1=>?_;rcases w with⟨_ | b | _|_|_|_⟩|_<;>first | exact q1.elim | skip
    refine⟨b,iN kg,?_⟩
    cases b with
    | true=>rw[aU rfl];exact bQ.plain q1 s1.mem (gC _)
    | false=>rw[aX (by simp)];exact⟨ah,M1,ρ,s1,q1⟩
theorem qr{K:PySem.W.Frag}{ads:List Addr}{H:Hp}{M:ag}{ρ:En}{σ:L2.St}{o:En->ag->bF Bool}{k:Bool->ag->bF Bool}{Q:Bool->Hp->Prop}{R:Bool->Hp->Prop}(s:SR K ads M ρ σ H)(h:CP K ads H Q ((o ρ M).bind k))(hk:∀w M1 H1 ah,SR K ah M1 ρ σ H1->CP K ah H1 Q (k w M1)->R w H1):mC K o σ H R:=by
 refine⟨ads,M,ρ,s,?_⟩
 cases q:o ρ M with
 | ok w M1 =>
  rw[q]at h;have h:CP K ads H Q (k w M1):=h;exact λH1 ah g1 m1=>hk w M1 H1 ah (s.grow g1 m1) (h.shift g1)
 | err _ _=>rw[q]at h;exact h
 | ae=>rw[q]at h;exact h
theorem Oa{c:C}{σ:L2.St}{H:Hp}{Q:Bool->Hp->Prop}(h:mC X.K (dP G (.val c)) σ H Q):tE X.K (ev G c) σ H λx H'=>∃k,zV X.K x H' k/\Q k H':=by
 obtain⟨ads,M,ρ,s,q⟩:=h;refine⟨ads,M,ρ,s,?_⟩;simp only[pX]at q
 cases hq:ev G c ρ M with
 | ok w M1 =>
  rw[hq]at q;intro v H1 ah g1 m1 r1;have q:CP X.K ads H Q (match nE M1 w with | some r=>.ok r M1 | none=>.ae):=q
  cases ht:nE M1 w with
  | none=>rw[ht]at q;exact q.elim
  | some k=>rw[ht]at q;exact⟨k,N2 m1 r1.rw ht,q H1 ah g1 m1⟩
 | err _ _=>rw[hq]at q;exact q
 | ae=>rw[hq]at q;exact q
theorem EJ{e:Expr}(h:ir e=true)(env:Env):∀lQ,isTrue e env lQ=(do let v <- lQ;standAt e.pos;holding [v] (truthy v)):=by
 cases e<;>first | (intro _;rfl) | exact absurd (show false=true from h) au
theorem EK{c:C}{e:Expr}(hp:ir e=true)(he:PE X e (tE X.K (ev G c))):PT X e (mC X.K (dP G (.val c))) :=
 ze (zW he (EJ hp X.env)) λσ H Q q=>Oa q
theorem kB{c:C}{e:Expr}(hb:∀ρ M w M',ev G c ρ M=.ok w M'->∃k,w=.d (.bl k))(he:PT X e (gR (tE X.K (ev G c)))):PT X e (mC X.K (dP G (.val c))):=by
 refine ze he λσ H Q q=>?_;obtain⟨ads,M,ρ,s,q⟩:=q;refine⟨ads,M,ρ,s,?_⟩;simp only[pX]at q
 cases hq:ev G c ρ M with
 | ok w M1 =>
  rw[hq]at q;obtain⟨k,rfl⟩:=hb _ _ _ _ hq;intro v H1 ah g1 m1 r1;exact⟨k,iN r1,q H1 ah g1 m1⟩
 | err _ _=>rw[hq]at q;exact q
 | ae=>rw[hq]at q;exact q
theorem Bj{op:yE}{a b:C}(ρ:En)(M:ag)(w:W)(M':ag)(h:ev G (.cmp op a b) ρ M=.ok w M'):∃k,w=.d (.bl k):=by
 simp only[AJ]at h
 cases h1:ev G a ρ M with
 | ok x M1 =>
  rw[h1]at h;simp only[bF.bind]at h
  cases h2:ev G b ρ M1 with
  | ok y M2 =>
   rw[h2]at h;simp only at h
   cases h3:bp op x y M2 with
   | ok k M3=>rw[h3]at h;cases h;exact⟨k,rfl⟩
   | err _ _=>rw[h3]at h;cases h
   | ae=>rw[h3]at h;cases h
  | err _ _=>rw[h2]at h;cases h
  | ae=>rw[h2]at h;cases h
 | err _ _=>rw[h1]at h;cases h
 | ae=>rw[h1]at h;cases h
theorem Bk{o1 o2:yE}{a b c:C}(ρ:En)(M:ag)(w:W)(M':ag)(h:ev G (.chain o1 o2 a b c) ρ M=.ok w M'):∃k,w=.d (.bl k):=by
 simp only[sj]at h
 cases h1:ev G a ρ M with
 | ok x M1 =>
  rw[h1]at h;simp only[bF.bind]at h
  cases h2:ev G b ρ M1 with
  | ok y M2 =>
   rw[h2]at h;simp only at h
   cases h3:bp o1 x y M2 with
   | ok k M3 =>
    rw[h3]at h;simp only at h
    cases k with
    | false=>cases h;exact⟨_,rfl⟩
    | true =>
     simp only[dE]at h
     cases h4:ev G c ρ M3 with
     | ok z M4 =>
      rw[h4]at h;simp only at h
      cases h5:bp o2 y z M4 with
      | ok k M5=>rw[h5]at h;cases h;exact⟨k,rfl⟩
      | err _ _=>rw[h5]at h;cases h
      | ae=>rw[h5]at h;cases h
     | err _ _=>rw[h4]at h;cases h
     | ae=>rw[h4]at h;cases h
   | err _ _=>rw[h3]at h;cases h
   | ae=>rw[h3]at h;cases h
  | err _ _=>rw[h2]at h;cases h
  | ae=>rw[h2]at h;cases h
 | err _ _=>rw[h1]at h;cases h
 | ae=>rw[h1]at h;cases h
theorem Gx{t:eh}{e:Expr}{pos:Pos}(ih:PT X e (mC X.K (dP G t))):PT X (.UnaryOp .Not e pos) (mC X.K (dP G (.neg t))):=by
 refine ze (HL ih) λσ H Q q=>?_;obtain⟨ads,M,ρ,s,q⟩:=q;exact qr s q λw M1 H1 ah s1 q1=>q1 H1 ah (ay.refl _ _) s1.mem
theorem Bl:∀(ts:List eh)(es:List Expr)(pos:Pos),(∀t∈ts,∀e,jD cc t e=true->PT X e (mC X.K (dP G t)))->mH cc ts es=true->es≠[]->PW X (.BoolOp .And es pos) (mC X.K (fw G ts))
 | [],[],_,_,_,h=>absurd rfl h
 | [],_::_,_,_,h,_=>by cases h
 | _::_,[],_,_,h,_=>by cases h
 | c::cs,e::es,pos,ih,h,_=>by
  have h':(jD cc c e&&mH cc cs es)=true:=h;simp only[av]at h';have he:=ih c dD e h'.1
  cases es with
  | nil =>
   cases cs with
   | cons _ _=>cases h'.2
   | nil =>
    refine Qn (Dm he) λσ H Q q=>?_;obtain⟨ads,M,ρ,s,q⟩:=q;refine⟨ads,M,ρ,s,?_⟩;simp only[ko,jb]at q
    cases hq:dP G c ρ M with
    | ok w M1=>rw[hq]at q;exact q
    | err _ _=>rw[hq]at q;exact q
    | ae=>rw[hq]at q;exact q
  | cons e2 es =>
   cases cs with
   | nil=>cases h'.2
   | cons c2 cs =>
    have hr:=Bl (c2::cs) (e2::es) pos (λc hc=>ih c (dB _ hc)) h'.2 (by simp);refine Qn (HK he hr) λσ H Q q=>?_;obtain⟨ads,M,ρ,s,q⟩:=q
    have q:CP X.K ads H Q ((dP G c ρ M).bind λx M=>match c2::cs,x with
     | [],x=>.ok x M
     | _,true=>fw G (c2::cs) ρ M
     | _,false=>.ok false M):=by unfold fw at q;exact q
    refine qr s q λw M1 H1 ah s1 q1=>?_
    cases w with
    | false=>rw[aX (by simp)];exact q1 H1 ah (ay.refl _ _) s1.mem
    | true=>rw[aU rfl];exact⟨ah,M1,ρ,s1,q1⟩
theorem Bm:∀(ts:List eh)(es:List Expr)(pos:Pos),(∀t∈ts,∀e,jD cc t e=true->PT X e (mC X.K (dP G t)))->mH cc ts es=true->es≠[]->PW X (.BoolOp .Or es pos) (mC X.K (fy G ts))
 | [],[],_,_,_,h=>absurd rfl h
 | [],_::_,_,_,h,_=>by cases h
 | _::_,[],_,_,h,_=>by cases h
 | c::cs,e::es,pos,ih,h,_=>by
  have h':(jD cc c e&&mH cc cs es)=true:=h;simp only[av]at h';have he:=ih c dD e h'.1
  cases es with
  | nil =>
   cases cs with
   | cons _ _=>cases h'.2
   | nil =>
    refine Qn (HJ he) λσ H Q q=>?_;obtain⟨ads,M,ρ,s,q⟩:=q;refine⟨ads,M,ρ,s,?_⟩;simp only[kr,jc]at q
    cases hq:dP G c ρ M with
    | ok w M1=>rw[hq]at q;exact q
    | err _ _=>rw[hq]at q;exact q
    | ae=>rw[hq]at q;exact q
  | cons e2 es =>
   cases cs with
   | nil=>cases h'.2
   | cons c2 cs =>
    have hr:=Bm (c2::cs) (e2::es) pos (λc hc=>ih c (dB _ hc)) h'.2 (by simp);refine Qn (Mp he hr) λσ H Q q=>?_;obtain⟨ads,M,ρ,s,q⟩:=q
    have q:CP X.K ads H Q ((dP G c ρ M).bind λx M=>match c2::cs,x with
     | [],x=>.ok x M
     | _,false=>fy G (c2::cs) ρ M
     | _,true=>.ok true M):=by unfold fy at q;exact q
    refine qr s q λw M1 H1 ah s1 q1=>?_
    cases w with
    | true=>rw[aU rfl];exact q1 H1 ah (ay.refl _ _) s1.mem
    | false=>rw[aX (by simp)];exact⟨ah,M1,ρ,s1,q1⟩
end
end
section
variable [EX]
section
variable {kk:Nat} {X:Cx} {cc:CC} {G:a9}
theorem uJ{b:Expr}(h:gu b=true):vL b:=by
 intro o i;cases b<;>first | rfl | exact absurd (show false=true from h) au
theorem Gy{a b:C}{e i:Expr}{pos:Pos}(g:bW kk X cc G)(hs:gu i=true)(ha:PE X e (tE X.K (ev G a)))(hb:PE X i (tE X.K (ev G b))):PE X (.Subscript e i pos) (tE X.K (ev G (.sub a b))):=by
 have Ln:=g.rh.un;refine fj (Nc (Jd ∅) ha hb (uJ hs)) λσ H Q q=>?_;exact two (λm r1 r2 h=>⟨_,_,_,_,m,r1,r2,h⟩) q
def W4(K:PySem.W.Frag)(ads:List Addr)(H:Hp)(Q:Option Int->Hp->Prop):bF (Option Int)->Prop
 | .ok o M=>∀H' ax,ay ads ax H H'->aD K ax H' M->Q o H'
 | .err x M=>EX.post K ads H x M
 | .ae=>False
def tO(K:PySem.W.Frag)(o:En->ag->bF (Option Int)):TO:=λσ H Q=>∃ads M ρ,SR K ads M ρ σ H/\W4 K ads H Q (o ρ M)
theorem Jw:PO X none (tO X.K (qU G none)):=λaa s σ H Q I q=>DN aa s σ H Q I (by
 obtain⟨ads,M,ρ,s,q⟩:=q;exact q H ads (ay.refl _ _) s.mem)
theorem Jx{c:C}{e:Expr}(h:PE X e (tE X.K (ev G c))):PO X (some e) (tO X.K (qU G (some c))):=λaa s σ H Q I q=>DO h aa s σ H Q I (by
 obtain⟨ads,M,ρ,s,q⟩:=q;refine⟨ads,M,ρ,s,?_⟩;simp only[my,mz]at q
 cases hq:ev G c ρ M with
 | ok w M1 =>
  rw[hq]at q;intro v H1 ah g1 m1 r1;rcases w with⟨_|_ | i | _|_|_⟩|_<;>first | exact q.elim | skip
  exact⟨i,aV r1,q H1 ah g1 m1⟩
 | err _ _=>rw[hq]at q;exact q
 | ae=>rw[hq]at q;exact q)
theorem Ob{a:C}{lo hi:Option C}{e:Expr}{l h:Option Expr}{pos p2:Pos}(ha:PE X e (tE X.K (ev G a)))(hl:PO X l (tO X.K (qU G lo)))(hh:PO X h (tO X.K (qU G hi))):PE X (.Subscript e (.Slice l h none p2) pos) (tE X.K (ev G (.gH a lo hi))):=by
 refine fj (Aa Je ha hl hh) λσ H Q q=>?_;obtain⟨ads,M,ρ,s,q⟩:=q;refine cN s q λw M1 v H1 ah s1 kg q1=>⟨ah,M1,ρ,s1,?_⟩
 cases hq:qU G lo ρ M1 with
 | ok o1 M2 =>
  rw[hq]at q1;have q1:bQ X.K ah H1 Q ((qU G hi ρ M2).bind λh M=>pU w o1 h M):=q1;intro H2 aM g2 m2;have s2:=s1.grow g2 m2;refine⟨aM,M2,ρ,s2,?_⟩
  cases Lq:qU G hi ρ M2 with
  | ok o2 M3 =>
   rw[Lq]at q1;intro H3 cQ g3 m3;exact⟨cQ,M3,w,m3,g3.rw (g2.rw kg),bQ.shift (o:=pU w o1 o2 M3) q1 (g2.trans g3) s1.mem m3⟩
  | err _ _=>rw[Lq]at q1;exact EX.shift (show EX.post X.K ah H1 _ _ from q1) g2
  | ae=>rw[Lq]at q1;exact q1
 | err _ _=>rw[hq]at q1;exact q1
 | ae=>rw[hq]at q1;exact q1
theorem g7:∀(cs:List C)(ρ:En)(M:ag)(ds:List D)(M':ag),a8 G cs ρ M=.ok ds M'->ds.length=cs.length
 | [],ρ,M,ds,M',h=>by cases h;rfl
 | c::cs,ρ,M,ds,M',h=>by
  simp only[fY,eT]at h
  cases h1:(ev G c ρ M).bind own with
  | ok d M1 =>
   rw[h1]at h;simp only[bF.bind]at h
   cases h2:a8 G cs ρ M1 with
   | ok es M2=>rw[h2]at h;cases h;simp[g7 cs ρ M1 es _ h2]
   | err _ _=>rw[h2]at h;cases h
   | ae=>rw[h2]at h;cases h
  | err _ _=>rw[h1]at h;cases h
  | ae=>rw[h1]at h;cases h
theorem cJ{cs:List C}{es:List Expr}(h:bu cc cs es=true)(env:Env)(pos:Pos):(backTo pos (starEach es env)).any (·.1)=false:=by
 have:∀(cs:List C)(es:List Expr),bu cc cs es=true->(starEach es env).any (·.1)=false:=by
  intro cs
  induction cs with
  | nil=>intro es h;cases es with
   | nil=>rfl
   | cons _ _=>cases h
  | cons c cs ih =>
   intro es h
   cases es with
   | nil=>cases h
   | cons e es =>
    have h':(aE e&&bw cc c e&&bu cc cs es)=true:=h;simp only[av]at h';rw[bq h'.1.1,xQ,ih es h'.2];rfl
 have e:=this cs es h;unfold backTo;simp only[List.any_map];exact e
theorem Jy{f:Nat}{cs:List C}{x:Str}{e:Expr}{es:List Expr}{p pos:Pos}(g:Good kk X cc G)(hf:cc.fs[f]?=some (x,cs.length))(hg:glob cc x=true)(hp:aQ x=true)(hc:bu cc cs (e::es)=true)(ha:PA X (e::es) (zd X.K (a8 G cs))):PE X (.Call (.Name x p) (e::es) [] pos) (tE X.K (ev G (.call f cs))):=by
 obtain⟨fa,fd,ps,F,hm,hk,hb⟩:=g.fns f x _ hf;obtain⟨E,hE,im⟩:=g.ex
 have fO:aE e=true/\bu cc cs.tail es=true:=by
  cases cs with
  | nil=>cases hc
  | cons c cs =>
   have h':(aE e&&bw cc c e&&bu cc cs es)=true:=hc;simp only[av]at h';exact⟨h'.1.1,h'.2⟩
 refine fj (DI (pos:=pos) (p:=p) (E:=E) F g.room (g.gl hg) hm hk hb .nil hE ha (cP hp).1 (bq fO.1 es X.env) (cJ fO.2 X.env pos)) λσ H Q q=>?_;obtain⟨ads,M,ρ,s,q⟩:=q;refine⟨ads,M,ρ,s,?_⟩;simp only[vW]at q
 cases hq:a8 G cs ρ M with
 | ok ds M1 =>
  rw[hq]at q;intro vs H1 ah g1 m1 r1;refine⟨ah,M1,ds,m1,?_,g7 cs ρ M ds M1 hq,bQ.imp im (bQ.shift (o:=G f ds M1) q g1 s.mem m1)⟩;rw[qZ];exact r1
 | err _ _=>rw[hq]at q;exact q
 | ae=>rw[hq]at q;exact q
def Oc(K:PySem.W.Frag)(ads:List Addr)(H:Hp)(Q:List V->Hp->Prop):bF (List W)->Prop
 | .ok ws M=>∀vs H' ax,ay ads ax H H'->aD K ax H' M->Ew K ax H' ws vs->Q vs H'
 | .err x M=>EX.post K ads H x M
 | .ae=>False
def Lr(K:PySem.W.Frag)(o:En->ag->bF (List W)):TA:=λσ H Q=>∃ads M ρ,SR K ads M ρ σ H/\Oc K ads H Q (o ρ M)
theorem Gz:PA X [] (Lr X.K (cV G [])):=Lp iW λσ H Q q=>by
 obtain⟨ads,M,ρ,s,q⟩:=q;exact q [] H ads (ay.refl _ _) s.mem rfl
theorem Bn{c:C}{cs:List C}{e:Expr}{es:List Expr}(hs:aE e=true)(ha:PE X e (tE X.K (ev G c)))(hr:PA X es (Lr X.K (cV G cs))):PA X (e::es) (Lr X.K (cV G (c::cs))):=by
 refine Lp (eL ha hr (bq hs es X.env)) λσ H Q q=>?_;obtain⟨ads,M,ρ,s,q⟩:=q;refine⟨ads,M,ρ,s,?_⟩;simp only[gW,fZ]at q
 cases hq:ev G c ρ M with
 | ok w M1 =>
  rw[hq]at q;intro v H1 ah g1 m1 r1;refine⟨ah,M1,ρ,s.grow g1 m1,?_⟩;have q:Oc X.K ads H Q ((cV G cs ρ M1).bind λds M=>.ok (w::ds) M):=q
  cases Bg:cV G cs ρ M1 with
  | ok ds M3 =>
   rw[Bg]at q;intro vs H3 cQ g3 m3 r3;exact q (v::vs) H3 cQ (g1.trans g3) m3 ⟨v,vs,rfl,g3.rw r1.rw,r3⟩
  | err _ _=>rw[Bg]at q;exact EX.shift (show EX.post X.K ads H _ _ from q) g1
  | ae=>rw[Bg]at q;exact q
 | err _ _=>rw[hq]at q;exact q
 | ae=>rw[hq]at q;exact q
theorem gv{b:Bi}{cs:List C}{σ:L2.St}{H:Hp}{Q:VK}(q:tE X.K (ev G (.bi b cs)) σ H Q):RN (AV X.K b) (Lr X.K (cV G cs)) σ H Q:=by
 obtain⟨ads,M,ρ,s,q⟩:=q;refine⟨ads,M,ρ,s,?_⟩;simp only[AN]at q
 cases hq:cV G cs ρ M with
 | ok ws M1 =>
  rw[hq]at q;intro vs H1 ah g1 m1 r1;exact⟨ah,M1,ws,m1,r1,bQ.shift (o:=gI b ws M1) q g1 s.mem m1⟩
 | err _ _=>rw[hq]at q;exact q
 | ae=>rw[hq]at q;exact q
theorem S5{b:Bi}{cs:List C}{x:Str}{e:Expr}{es:List Expr}{p pos:Pos}(g:Good kk X cc G)(hb:N8 b=true)(hx:x=Ba b)(hg:glob cc x=true)(hs:aE e=true)(hc:bu cc cs.tail es=true)(ha:PA X (e::es) (Lr X.K (cV G cs))):PE X (.Call (.Name x p) (e::es) [] pos) (tE X.K (ev G (.bi b cs))):=by
 have sI:=g.gl hg;have fO:=bq hs es X.env;have j_:=cJ hc X.env pos;have hm:X.mg x=none:=g.blt x (by subst hx;cases b<;>first | (show _∈cI;decide +kernel) | (cases hb));subst hx
 cases b with
 | len=>exact fj (e8 Jf sI hm boot_len ha ⋯ ⋯ fO j_) λσ H Q q=>gv q
 | max2=>exact fj (e8 (Jh g.calm) sI hm boot_max ha ⋯ ⋯ fO j_) λσ H Q q=>gv q
 | min2=>cases hb
 | iI=>exact fj (e8 (EA g.room) sI hm boot_repr ha ⋯ ⋯ fO j_) λσ H Q q=>gv q
 | mr=>exact fj (ip Ji sI hm ⋯ ha ⋯ ⋯ fO j_) λσ H Q q=>gv q
 | list1=>exact fj (ip Ey sI hm ⋯ ha ⋯ ⋯ fO j_) λσ H Q q=>gv q
 | tuple1=>exact fj (ip AX sI hm ⋯ ha ⋯ ⋯ fO j_) λσ H Q q=>gv q
 | vS=>cases hb
 | all1=>exact fj (e8 (Jg g.calm) sI hm boot_all ha ⋯ ⋯ fO j_) λσ H Q q=>gv q
 | Ee=>cases hb
 | iJ t=>cases hb
 | str1=>exact fj (ip Jj sI hm ⋯ ha ⋯ ⋯ fO j_) λσ H Q q=>gv q
 | vT=>cases hb
 | min1=>exact fj (e8 (Ez g.calm) sI hm boot_min ha ⋯ ⋯ fO j_) λσ H Q q=>gv q
 | Ef=>cases hb
theorem S7{y:Str}{T:String}{pos:Pos}(hg:Gl X y)(hm:X.mg y=none)(hv:bootBuiltins y=some (.type T)) (hn:y≠ "__name__") (hd:(y==("__debug__" : Str))=false):PE X (.Name y pos) (tC (.ty T)) :=
 vB hg hm hv rfl hn hd
theorem Od{t:Ty}{c:C}{x y:Str}{e:Expr}{p py pos:Pos}(g:bW kk X cc G) (hx:x = "isinstance") (W5:glob cc x=true) (hy:y=Str.ofString (sC t)) (W6:glob cc y=true) (ht:t≠.none) (hs:aE e=true) (ha:PE X e (tE X.K (ev G c))):PE X (.Call (.Name x p) [e,.Name y py] [] pos) (tE X.K (ev G (.bi (.iJ t) [c]))):=by
 have W7:X.mg x=none:=g.blt x (by subst hx;show _∈cI;decide +kernel);have W8:X.mg y=none:=g.blt y (by subst hy;cases t<;>first | exact absurd rfl ht | (show _∈cI;decide +kernel))
 have W9:PE X (.Name y py) (tC (.ty (sC t))):=by
  subst hy;cases t<;>first | exact absurd rfl ht | exact S7 (g.gl W6) W8 ⋯ ⋯ ⋯
 have sI:=g.gl W5;subst hx;refine fj (e8 (Jl t) sI W7 boot_isinstance (eL ha (eL W9 iW) (bq hs _ X.env)) ⋯ ⋯ (bq hs _ X.env) rfl) λσ H Q q=>?_;obtain⟨ads,M,ρ,s,q⟩:=q;refine⟨ads,M,ρ,s,?_⟩;simp only[AN,gW,fZ]at q
 cases hq:ev G c ρ M with
 | ok w M1 =>
  rw[hq]at q;intro v H1 ah g1 m1 r1;exact⟨v,rfl,ah,M1,[w],m1,⟨v,[],rfl,r1.rw,rfl⟩,bQ.shift (o:=gI (.iJ t) [w] M1) q g1 s.mem m1⟩
 | err _ _=>rw[hq]at q;exact q
 | ae=>rw[hq]at q;exact q
theorem EL:Lf X "str.find" (λx xs H Q=>∃s t,x=.str s/\xs=[.str t]/\Q (.int (Txt.find s t)) H):=by
 intro aa s σ H x xs v us Q I rx rv h;obtain⟨a,b,rfl,rfl,q⟩:=h;obtain⟨t,rfl⟩:=rx;obtain⟨u,rfl,t',rfl⟩:=vals1 rv;exact PySem.W.KXw.find rfl λt' k=>⟨.int _,H,I.tok k,⟨_,rfl⟩,q⟩
theorem ju{e:Expr}(h:gY e=true)(n:Str)(env:Env)(wh:Sem Value):attributeBase e n env wh=wh:=by
 cases e<;>first | rfl | skip
 rename_i f args d7 pos
 cases f<;>first | rfl | skip
 cases args<;>first | rfl | skip
 cases d7<;>first | rfl | exact absurd (show false=true from h) au
theorem Bo{m:Me}{o:C}{cs:List C}{σ:L2.St}{H:Hp}{Q:VK}(q:tE X.K (ev G (.me m o cs)) σ H Q):UT X.K "list" (Ql X.K m) (tE X.K (ev G o)) (zd X.K (a8 G cs)) σ H Q:=by
 obtain⟨ads,M,ρ,s,q⟩:=q;have q:bQ X.K ads H Q ((ev G o ρ M).bind λx M=>if (dH M x).isSome then (a8 G cs ρ M).bind λds M=>uy m x ds M else .ae):=by simp only[AO]at q;exact q
 refine cN s q λw M1 v H1 ah s1 kg q1=>?_;split at q1
 ·rename_i hs
  obtain⟨es,he⟩:=xv.mp hs;obtain⟨a,xs,rfl,rd,ha⟩:=mE s1.mem kg he;refine⟨.inl ⟨rfl,xs,fv.of ha⟩,ah,M1,ρ,s1,?_⟩
  cases hq:a8 G cs ρ M1 with
  | ok ds M2 =>
   rw[hq]at q1;intro vs H2 aM g2 m2 r2;exact⟨aM,M2,w,ds,m2,g2.rw kg,r2,bQ.shift (o:=uy m w ds M2) q1 g2 s1.mem m2⟩
  | err _ _=>rw[hq]at q1;exact q1
  | ae=>rw[hq]at q1;exact q1
 ·exact q1.elim
theorem wj{m:Me}{o:C}{σ:L2.St}{H:Hp}{Q:VK}(q:tE X.K (ev G (.me m o [])) σ H Q):Nf X.K "list" (Ql X.K m) (tE X.K (ev G o)) σ H Q:=by
 obtain⟨ads,M,ρ,s,q⟩:=q;have q:bQ X.K ads H Q ((ev G o ρ M).bind λx M=>if (dH M x).isSome then (a8 G [] ρ M).bind λds M=>uy m x ds M else .ae):=by simp only[AO]at q;exact q
 refine cN s q λw M1 v H1 ah s1 kg q1=>?_;split at q1
 ·rename_i hs
  obtain⟨es,he⟩:=xv.mp hs;obtain⟨a,xs,rfl,rd,ha⟩:=mE s1.mem kg he;exact⟨.inl ⟨rfl,xs,fv.of ha⟩,ah,M1,w,[],s1.mem,kg,(by unfold aT;rfl),q1⟩
 ·exact q1.elim
theorem Bp{cs:List C}{es:List Expr}(h:bu cc cs es=true)(hl:es.length<20)(env:Env)(dG:Pos):((backTo dG (starEach es env)).all (λx=>!x.1)&&(backToKw dG (keywordEach [] env)).all (λx=>x.1.isSome)&&decide (es.length+([]:List Keyword).length+(if ([]:List Keyword).isEmpty then 0 else 1)<30))=true:=by
 have h1:=cJ h env dG
 have h2:(backTo dG (starEach es env)).all (λx=>!x.1)=true:=by
  rw[gM];intro x hx;rw[C5]at h1;have:=h1 x hx;simpa using this
 rw[h2];simp[keywordEach,backToKw];omega
theorem EM{a b:C}{e x:Expr}{n:Str}{ap cp:Pos} (hn:n = "find") (hl:(ap.endLine==cp.line)=true) (h0:gY e=true) (hx:aE x=true) (Oe:bw cc b x=true) (ho:PE X e (tE X.K (ev G a))) (hb:PE X x (tE X.K (ev G b))):PE X (.Call (.Attribute e n ap) [x] [] cp) (tE X.K (ev G (.fV a b))):=by
 have W_:=ju h0 n X.env (eval e X.env)
 have hc:bu cc [b] [x]=true:=by
  show(aE x&&bw cc b x&&true)=true;rw[hx,Oe];rfl
 have yn:=Bp hc (show 1<20 by decide) X.env cp;subst hn;refine fj (Ah F.plainAttrs_str F.slot_str_find F.type_str_find EL ho (Bn hx hb Gz) W_ yn hl (bq hx [] X.env) rfl) λσ H Q q=>?_;obtain⟨ads,M,ρ,s,q⟩:=q
 have q:bQ X.K ads H Q ((ev G a ρ M).bind λx M=>match x with
  | .d (.str z)=>(ev G b ρ M).bind λy M=>kT (.d (.str z)) y M
  | _=>.ae):=by simp only[so]at q;exact q
 refine cN s q λw M1 v H1 ah s1 kg q1=>?_;rcases w with⟨_|_|_ | z | _|_|_⟩|_<;>first | exact q1.elim | skip
 have e1:=dy kg;subst e1;refine⟨rfl,ah,M1,ρ,s1,?_⟩;simp only[gW,fZ];have q1:bQ X.K ah H1 Q ((ev G b ρ M1).bind λy M=>kT (.d (.str z)) y M):=q1
 cases hq:ev G b ρ M1 with
 | ok y M2 =>
  rw[hq]at q1;intro vs H2 aM g2 m2 r2;obtain⟨v2,rfl,Xa⟩:=Ew.one r2;have q1:bQ X.K ah H1 Q (kT (.d (.str z)) y M2):=q1;rcases y with⟨_|_|_ | y | _|_|_⟩|_<;>first | exact q1.elim | skip
  have e2:=dy Xa;subst e2;exact⟨z,y,rfl,rfl,bQ.plain (bQ.shift (o:=kT (.d (.str z)) (.d (.str y)) M2) q1 g2 s1.mem m2) m2 (cB _)⟩
 | err _ _=>rw[hq]at q1;exact q1
 | ae=>rw[hq]at q1;exact q1
theorem S8{m:Me}{o:C}{cs:List C}{e:Expr}{es:List Expr}{n:Str}{ap cp:Pos}(hn:n=Bb m)(hm:N7 m=true)(hl:(ap.endLine==cp.line)=true)(h0:gY e=true)(hc:bu cc cs es=true)(bf:es.length<20)(ho:PE X e (tE X.K (ev G o)))(ha:PA X es (zd X.K (a8 G cs))):PE X (.Call (.Attribute e n ap) es [] cp) (tE X.K (ev G (.me m o cs))):=by
 have hb:=ju h0 n X.env (eval e X.env);subst hn
 cases es with
 | nil =>
  cases cs with
  | cons _ _=>cases hc
  | nil =>
   cases m with
   | append=>exact fj (Ae C7 F.slot_list_append F.type_list_append oA ho hb hl) λσ H Q q=>wj q
   | insert=>exact fj (Ae C7 F.slot_list_insert F.type_list_insert oB ho hb hl) λσ H Q q=>wj q
   | reverse=>cases hm
   | extend=>cases hm
   | remove=>cases hm
   | pop=>cases hm
   | clear=>cases hm
 | cons e1 es =>
  have fO:aE e1=true/\bu cc cs.tail es=true:=by
   cases cs with
   | nil=>cases hc
   | cons c cs =>
    have h':(aE e1&&bw cc c e1&&bu cc cs es)=true:=hc;simp only[av]at h';exact⟨h'.1.1,h'.2⟩
  have yn:=Bp hc bf X.env cp
  cases m with
  | append=>exact fj (Ah C7 F.slot_list_append F.type_list_append oA ho ha hb yn hl (bq fO.1 es X.env) (cJ fO.2 X.env cp)) λσ H Q q=>Bo q
  | insert=>exact fj (Ah C7 F.slot_list_insert F.type_list_insert oB ho ha hb yn hl (bq fO.1 es X.env) (cJ fO.2 X.env cp)) λσ H Q q=>Bo q
  | reverse=>cases hm
  | extend=>cases hm
  | remove=>cases hm
  | pop=>cases hm
  | clear=>cases hm
theorem Of{x:Str}{v:Int}{pos:Pos}(g:bW kk X cc G)(hg:glob cc x=true)(hp:aQ x=true)(hl:cc.gs.lookup x=some v):PE X (.Name x pos) (tE X.K (ev G (.qT x v))):=by
 obtain⟨t,ht⟩:=g.Qm x v hl;refine fj (pj (v:=.int v) (g.gl hg) ht ⟨t,rfl⟩ (cP hp).1) λσ H Q q=>?_;obtain⟨ads,M,ρ,s,q⟩:=q;exact bQ.plain q s.mem (cB _)
theorem bN.lookup{K:PySem.W.Frag}{ads:List Addr}{H:Hp}{f:Str}{d:D}:∀{xs:List (Str×D)}{ys:List (Str×V)},bN K ads H xs ys->xs.lookup f=some d->∃v,ys.lookup f=some v/\RD K ads H d v
 | [],_,_,e=>nomatch e
 | p::xs,ys,h,e=>by
  unfold bN at h;obtain⟨x,r,rfl,h0,h1,h2⟩:=h;obtain⟨a,b⟩:=p;obtain⟨a',v⟩:=x;obtain rfl:a=a':=h0;by_cases q:f=a
  ·subst q;simp only[dm,xJ]at e⊢;cases e;exact⟨v,rfl,h1⟩
  ·have q:(f==a)=false:=by simpa using q
   simp only[dm,q]at e⊢;exact bN.lookup h2 e
theorem kC{α:Type}{c:Addr}{r:α}:∀{l:List (Addr×α)},l.lookup c=some r->(c,r)∈l
 | [],h=>nomatch h
 | (d,b)::l,h=>by
  rw[dm]at h;split at h
  ·rename_i e;cases h;rw[eq_of_beq e];exact dD
  ·exact dB _ (kC h)
theorem Og{a:C}{f:Str}{x:Str}{p pos:Pos}(ha:PE X (.Name x p) (tE X.K (ev G a))):PE X (.Attribute (.Name x p) f pos) (tE X.K (ev G (.xf a f))):=by
 refine fj (NN ha rfl) λσ H Q q=>?_;obtain⟨ads,M,ρ,s,q⟩:=q;refine cN s q λw M1 v H1 ah s1 kg q1=>?_;rcases w with⟨_|_|_|_|_ | n | _⟩|_<;>first | exact q1.elim | skip
 have r1:RD X.K ah H1 (.aC n) v:=kg;unfold RD at r1;obtain⟨ad,rfl,ea⟩:=r1
 have q1:bQ X.K ah H1 Q (match M1[n]? with
  | some (.xc _ fs)=>(match fs.lookup f with
   | some d=>.ok (.d d) M1
   | none=>.ae)
  | _=>.ae):=q1
 cases qm:M1[n]? with
 | none=>rw[qm]at q1;exact q1.elim
 | some ob =>
  rw[qm]at q1
  cases ob with
  | xc C fs =>
   have q1:bQ X.K ah H1 Q (match fs.lookup f with
    | some d=>.ok (.d d) M1
    | none=>.ae):=q1
   cases ql:fs.lookup f with
   | none=>rw[ql]at q1;exact q1.elim
   | some d =>
    rw[ql]at q1;obtain⟨dx,gs,hx,hd,rk,Da,fI,xi⟩:=s1.mem.obj n _ ad qm ea;obtain⟨u,lu,ru⟩:=rk.lookup ql;exact⟨ad,C,Da,fI,dx,_,gs,u,rfl,hx,xi,iS.mpr ⟨(f,d),jY ql,rfl⟩,hd,lu,q1 u H1 ah (ay.refl _ _) s1.mem ru⟩
  | lst _=>exact q1.elim
  | iZ _=>exact q1.elim
  | dK _=>exact q1.elim
  | dT _=>exact q1.elim
  | dF _=>exact q1.elim
theorem Bq(g:bW kk X cc G):∀(xs:List Str)(es:List Expr)(cs:List Addr),wa cc xs es=true->xs.map X.mg=cs.map (λc=>some (.ref c))->PA X es (λ_ H Q=>Q (cs.map V.ref) H)
 | [],[],[],_,_=>Lp iW λ_ _ _ q=>q
 | [],[],_::_,_,h=>by cases h
 | [],_::_,_,h,_=>by cases h
 | _::_,[],_,h,_=>by cases h
 | _::_,_::_,[],_,h=>by cases h
 | x::xs,e::es,c::cs,h,hm=>by
  have h:((bH e λy _=>y==x&&glob cc y&&aQ y)&&wa cc xs es)=true:=h;simp only[av]at h;obtain⟨h1,h2⟩:=h;have m1:X.mg x=some (.ref c):=(List.cons.inj hm).1;have m2:=(List.cons.inj hm).2;refine aF (P:=λe=>PA X (e::es) _) h1 λy p h1=>?_;simp only[av]at h1;obtain⟨⟨k1,k2⟩,k3⟩:=h1;obtain rfl:=eq_of_beq k1;exact Lp (eL (pj (v:=.ref c) (g.gl k2) m1 rfl (cP k3).1) (Bq g xs es cs h2 m2) rfl) λ_ _ _ q=>q
theorem GA{a:C}{k:IX}{tb:List (Addr×Bool)}{x:Str}{u v:Expr}{p pos:Pos}(g:bW kk X cc G) (hx:x = "isinstance") (hg:glob cc x=true) (hs:aE u=true) (ha:PE X u (tE X.K (ev G a))) (hk:Gm cc k v=true) (ht:(tb.all λp=>cc.xs.kt.contains (k,p.1,p.2))=true):PE X (.Call (.Name x p) [u,v] [] pos) (tE X.K (ev G (.ow a k tb))):=by
  have sI:=g.gl hg;have hm:X.mg x=none:=g.blt x (by subst hx;show _∈cI;decide +kernel);subst hx
  have core : ∀ {v : Expr} {tv : TE}, aE v = true -> PE X v tv -> (∀ (n : Nat) (M1 : ag) (C : Addr) (fs : List (Str × Ev.D)) (r : Bool) (σ : L2.St) (H1 : Hp) (ah : List Addr) (Q : VK), aD X.K ah H1 M1 -> sE X.K X.mg k C r ->
      (∀y H2 aM,ay ah aM H1 H2->aD X.K aM H2 M1->((∃c,RelV y c/\PySem.W.kitOne X.K (.ref C) c=some r)\/∃(tp:Addr) (cs:List Addr),y=.ref tp/\H2 tp=some (.tup (cs.map V.ref))/\PySem.W.kitAny X.K (.ref C) (cs.map Value.ref)=some r)->Q y H2)->tv σ H1 Q) ->
      PE X (.Call (.Name "isinstance" p) [u,v] [] pos) (tE X.K (ev G (.ow a k tb))):=by
    intro v tv Vf pv hv;refine fj (e8 Az sI hm boot_isinstance (eL ha (eL pv iW (bq Vf [] X.env)) (bq hs _ X.env)) ⋯ ⋯ (bq hs _ X.env) (by rw[bq Vf [] X.env];rfl)) λσ H Q q=>?_;obtain⟨ads,M,ρ,s,q⟩:=q;refine cN s q λw M1 vv H1 ah s1 kg q1=>?_;rcases w with⟨_|_|_|_|_ | n | _⟩|_<;>first | exact q1.elim | skip
    have r1:RD X.K ah H1 (.aC n) vv:=kg;unfold RD at r1;obtain⟨ad,rfl,ea⟩:=r1
    have q1:bQ X.K ah H1 Q (match M1[n]? with
      | some (.xc C _)=>(match tb.lookup C with
        | some b=>.ok (.d (.bl b)) M1
        | none=>.ae)
      | _=>.ae):=q1
    cases qm:M1[n]? with
    | none=>rw[qm]at q1;exact q1.elim
    | some ob =>
      rw[qm]at q1
      cases ob with
      | xc C fs =>
        have q1:bQ X.K ah H1 Q (match tb.lookup C with
          | some b=>.ok (.d (.bl b)) M1
          | none=>.ae):=q1
        cases ql:tb.lookup C with
        | none=>rw[ql]at q1;exact q1.elim
        | some r =>
          rw[ql]at q1;have ki:=g.S4 k C r (by have:=gM.mp ht (C,r) (kC ql);simpa using this);obtain⟨dx,gs,hx,hd,rk,Da,fI,xi⟩:=s1.mem.obj n _ ad qm ea;refine hv n M1 C fs r σ H1 ah _ s1.mem ki λy H2 aM g2 m2 hy=>?_;obtain⟨Xb,gs2,Xc,_⟩:=m2.obj n _ ad qm (g2.get ea);exact⟨ad,C,Xb,Da,fI,_,y,r,rfl,Xc,xi,hy,q1 (.bl r) H2 aM g2 m2 (show RD X.K aM H2 (.bl r) (.bl r) from gC _)⟩
      | lst _=>exact q1.elim
      | iZ _=>exact q1.elim
      | dK _=>exact q1.elim
      | dT _=>exact q1.elim
      | dF _=>exact q1.elim
  cases k with
  | one c =>
    refine aF (P:=λv=>PE X (.Call (.Name "isinstance" p) [u,v] [] pos) _) hk λy py h1=>?_;simp only[av]at h1;obtain⟨⟨k1,k2⟩,k3⟩:=h1;obtain rfl:=eq_of_beq k1
    cases GB:X.mg y with
    | none =>
      intro aa s σ H Q I q;obtain⟨ads,M,ρ,sr,q⟩:=q;exact(core (v:=.Name y py) (tv:=λ_ _ _=>False) rfl (λ_ _ _ _ _ _ z=>z.elim) (λn M1 C fs r σ H1 ah Q m ⟨c,hc,_⟩ hq=>by rw[GB]at hc;cases hc)) aa s σ H Q I ⟨ads,M,ρ,sr,q⟩
    | some val =>
      cases hv:val with
      | ref c =>
        rw[hv]at GB;refine core rfl (pj (v:=.ref c) (g.gl k2) GB rfl (cP k3).1) λn M1 C fs r σ H1 ah Q m ⟨c',hc,e⟩ hq=>?_;rw[GB]at hc;cases hc;exact hq _ H1 ah (ay.refl _ _) m (.inl ⟨.ref c,rfl,e⟩)
      | _=>exact core (v:=.Name y py) (tv:=λ_ _ _=>False) rfl (λ_ _ _ _ _ _ z=>z.elim) (λn M1 C fs r σ H1 ah Q m ⟨c,hc,_⟩ hq=>by rw[GB,hv]at hc;cases hc)
  | ve =>
    refine aF (P:=λv=>PE X (.Call (.Name "isinstance" p) [u,v] [] pos) _) hk λy py h1=>?_;simp only[av]at h1;obtain⟨k1,k2⟩:=h1;obtain rfl:=eq_of_beq k1
    cases GB:X.mg "ValueError" with
    | some _=>exact core (v:=.Name "ValueError" py) (tv:=λ_ _ _=>False) rfl (λ_ _ _ _ _ _ z=>z.elim) (λn M1 C fs r σ H1 ah Q m ⟨hc,_⟩ hq=>by rw[GB]at hc;cases hc)
    | none =>
      refine core rfl (vB (v:=.ty "ValueError") (u:=.type "ValueError") (g.gl k2) GB (nofun) rfl) λn M1 C fs r σ H1 ah Q m ⟨_,e⟩ hq=>?_;exact hq _ H1 ah (ay.refl _ _) m (.inl ⟨.type "ValueError",rfl,e⟩)
  | many xs =>
    refine ff (P:=λv=>PE X (.Call (.Name "isinstance" p) [u,v] [] pos) _) hk λes kt py h1=>?_;simp only[av,oW]at h1;by_cases hc:∃cs:List Addr,xs.map X.mg=cs.map (λc=>some (.ref c))
    · obtain⟨cs,hc⟩:=hc;have hl:cs.length=xs.length:=by have:=oZ List.length hc;simpa using this.symm
      refine core rfl (zX (Bq g xs es cs h1.1 hc)) λn M1 C fs r σ H1 ah Q m ⟨Lm,y8,e⟩ hq=>?_
      have:Lm=cs:=by
        have:=hc.symm.trans y8;exact(List.map_inj_right (f:=λc=>some (Value.ref c)) (λa b z=>by cases z;rfl)).mp this.symm
      subst this;refine⟨by rw[cM,hl];exact bJ (oY h1.2) (by decide),λtp Vg=>?_⟩;exact hq _ _ ah (ay.dM m Vg) (m.dM Vg) (.inr ⟨tp,Lm,rfl,aB,e⟩)
    · exact core (v:=.Tuple es kt py) (tv:=λ_ _ _=>False) rfl (λ_ _ _ _ _ _ z=>z.elim) (λn M1 C fs r σ H1 ah Q m ⟨cs,y8,_⟩ hq=>absurd ⟨cs,y8⟩ hc)
theorem wk{f:Nat}{cs:List C}{x:Str}{e:Expr}{es:List Expr}{p pos:Pos}(g:bW kk X cc G)(hf:cc.fs[f]?=some (x,cs.length))(hh:f∈cc.xs.hs)(hg:glob cc x=true)(hp:aQ x=true)(hc:bu cc cs (e::es)=true)(ha:PA X (e::es) (zd X.K (a8 G cs))):PE X (.Call (.Name x p) (e::es) [] pos) (tE X.K (ev G (.fX f cs))):=by
 obtain⟨fa,fd,ps,F,hm,hk,hb⟩:=g.Ju f x _ hf hh
 have fO:aE e=true/\bu cc cs.tail es=true:=by
  cases cs with
  | nil=>cases hc
  | cons c cs =>
   have h':(aE e&&bw cc c e&&bu cc cs es)=true:=hc;simp only[av]at h';exact⟨h'.1.1,h'.2⟩
 refine fj (AA (pos:=pos) (p:=p) (E:=E0) F g.rh (g.gl hg) hm hk hb .nil Nn ha (cP hp).1 (bq fO.1 es X.env) (cJ fO.2 X.env pos)) λσ H Q q=>?_;obtain⟨ads,M,ρ,s,q⟩:=q;refine⟨ads,M,ρ,s,?_⟩;simp only[su]at q
 cases hq:a8 G cs ρ M with
 | ok ds M1 =>
  rw[hq]at q;intro vs H1 ah g1 m1 r1;have q:bQ X.K ads H Q ((G f ds M1).b0 .ok):=q;refine⟨ah,M1,ds,m1,?_,g7 cs ρ M ds M1 hq,?_⟩
  ·rw[qZ];exact r1
  ·cases hG:G f ds M1 with
   | ok w M2=>rw[hG]at q;exact bQ.shift (o:=.ok w M2) q g1 s.mem m1
   | err _ _=>rw[hG]at q;exact q.elim
   | ae=>rw[hG]at q;exact q.elim
 | err _ _=>rw[hq]at q;exact q
 | ae=>rw[hq]at q;exact q
end
end
section
variable [EX]
section
variable {kk:Nat} {X:Cx} {cc:CC} {G:a9}
structure TF (H H':Hp):Prop where
 tup:NQ H H'
 gA:∀b o u,H b=some (.gA o u)->H' b=some (.gA o u)
 xd:∀b gs,H b=some (.xd gs)->H' b=some (.xd gs)
theorem TF.iZ{K:PySem.W.Frag}{H H':Hp}(t:TF H H'){a:Addr}{xs:List V}(h:sg K H a xs):sg K H' a xs:=by
 rcases h with⟨o,h⟩ | h
 ·exact .inl ⟨o,t.gA _ _ _ h⟩
 ·exact .inr h
mutual
theorem RD.keep{K:PySem.W.Frag}{ads:List Addr}{H H':Hp}(t:TF H H'):∀(d:D)(v:V),RD K ads H d v->RD K ads H' d v
 | .aK,_,h=>by unfold RD at *;exact h
 | .bl _,_,h=>by unfold RD at *;exact h
 | .int _,_,h=>by unfold RD at *;exact h
 | .str _,_,h=>by unfold RD at *;exact h
 | .aC n,v,h=>by unfold RD at *;exact h
 | .tup ds,v,h=>by unfold RD at *;obtain⟨a,xs,e,h,r⟩:=h;exact⟨a,xs,e,t.tup _ _ h,aT.keep t ds xs r⟩
 | .ls ds,v,h=>by unfold RD at *;obtain⟨a,xs,e,h,r⟩:=h;exact⟨a,xs,e,t.iZ h,aT.keep t ds xs r⟩
theorem aT.keep{K:PySem.W.Frag}{ads:List Addr}{H H':Hp}(t:TF H H'):∀(ds:List D)(vs:List V),aT K ads H ds vs->aT K ads H' ds vs
 | [],_,h=>by unfold aT at *;exact h
 | d::ds,vs,h=>by unfold aT at *;obtain⟨x,r,e,h1,h2⟩:=h;exact⟨x,r,e,RD.keep t d x h1,aT.keep t ds r h2⟩
end
theorem bN.keep{κ:Type}{K:PySem.W.Frag}{ads:List Addr}{H H':Hp}(t:TF H H'):∀(ds:List (κ×D))(vs:List (κ×V)),bN K ads H ds vs->bN K ads H' ds vs
 | [],_,h=>by unfold bN at *;exact h
 | d::ds,vs,h=>by unfold bN at *;obtain⟨x,r,e,h0,h1,h2⟩:=h;exact⟨x,r,e,h0,RD.keep t d.2 x.2 h1,bN.keep t ds r h2⟩
theorem aD.keep{K:PySem.W.Frag}{ads:List Addr}{H H':Hp}{M:ag}(m:aD K ads H M)(t:TF H H')(k:∀a∈ads,H' a=H a):aD K ads H' M:=⟨m.nd,m.len,λn o a e1 e2=>by
 have h:=m.obj n o a e1 e2;have ha:=k a (dC e2)
 cases o with
 | lst ds=>obtain⟨xs,h,r⟩:=h;exact⟨xs,ha.trans h,aT.keep t _ _ r⟩
 | iZ ds=>obtain⟨o,xs,h,r⟩:=h;exact⟨o,xs,ha.trans h,aT.keep t _ _ r⟩
 | dK ds=>obtain⟨xs,h,r⟩:=h;exact⟨xs,ha.trans h,bN.keep t _ _ r⟩
 | dT ds=>obtain⟨xs,h,r⟩:=h;exact⟨xs,ha.trans h,bN.keep t _ _ r⟩
 | dF ds=>obtain⟨o,xs,h,r⟩:=h;exact⟨o,xs,ha.trans h,bN.keep t _ _ r⟩
 | xc C ds=>obtain⟨dx,gs,h,hd,r,x⟩:=h;exact⟨dx,gs,ha.trans h,t.xd _ _ hd,bN.keep t _ _ r,x⟩⟩
theorem jE:∀(ao aI:List (bC×V)),(aI.map (·.1)++ao.map (·.1)).Nodup->fG aI ao=aI++ao
 | [],aI,_=>by simp[fG]
 | p::ps,aI,h=>by
  have hn:¬p.1∈aI.map (·.1):=by
   intro hm;rw[C8]at h;exact h.2.2 _ hm _ (by simp) rfl
  have ha:(aI.any λkv=>decide (kv.1=p.1))=false:=by
   rw[C5];intro x hx;simp only[oW];exact λe=>hn (e▸Ho hx)
  have e:fG aI (p::ps)=fG (aI++[p]) ps:=by
   show fG (eM aI p.1 p.2) ps=_;unfold eM;rw[ha];simp
  rw[e,jE ps (aI++[p]) (by simpa using h)];simp
def kE(K:PySem.W.Frag)(G:a9):List Str->List C->List (TE×TE)
 | k::ks,c::cs=>(tC (.str k),tE K (ev G c))::kE K G ks cs
 | _,_=>[]
theorem mI{K:PySem.W.Frag}(ks:List Str)(cs:List C):∀t∈kE K G ks cs,(∀σ H A B,(∀v H,A v H->B v H)->t.1 σ H A->t.1 σ H B)/\(∀σ H A B,(∀v H,A v H->B v H)->t.2 σ H A->t.2 σ H B):=by
 intro t ht
 have:∀(ks:List Str)(cs:List C),t∈kE K G ks cs->∃k c,t=(tC (.str k),tE K (ev G c)):=by
  intro ks
  induction ks with
  | nil=>intro cs h;cases cs<;>cases h
  | cons k ks ih =>
   intro cs h
   cases cs with
   | nil=>cases h
   | cons c cs =>
    rcases cq.mp h with z | z
    ·exact⟨k,c,z⟩
    ·exact ih cs z
 obtain⟨k,c,rfl⟩:=this ks cs ht;refine⟨λσ H A B f h=>f _ _ h,λσ H A B f h=>?_⟩;obtain⟨ads,M,ρ,s,q⟩:=h;refine⟨ads,M,ρ,s,?_⟩
 cases hq:ev G c ρ M with
 | ok w M1=>rw[hq]at q;exact λv H' ax g m r=>f _ _ (q v H' ax g m r)
 | err _ _=>rw[hq]at q;exact q
 | ae=>rw[hq]at q;exact q
theorem sJ{K:PySem.W.Frag}{ρ:En}{σ:L2.St}:∀(ks:List Str)(cs:List C){ads:List Addr}{H:Hp}{M:ag}{R:List V->Hp->Prop},ks.length=cs.length->SR K ads M ρ σ H->sv K ads H R (a8 G cs ρ M)->gk (kE K G ks cs) σ H λps H2=>∃vs,ps=(ks.map V.str).zip vs/\vs.length=ks.length/\R vs H2
 | [],[],ads,H,M,R,_,s,h=>⟨[],rfl,rfl,h [] H ads (ay.refl _ _) s.mem (by unfold aT;rfl)⟩
 | [],_::_,_,_,_,_,e,_,_=>by cases e
 | _::_,[],_,_,_,_,e,_,_=>by cases e
 | k::ks,c::cs,ads,H,M,R,e,s,h=>by
  show tE K (ev G c) σ H λy H2=>gk (kE K G ks cs) σ H2 λps H3=>_;refine⟨ads,M,ρ,s,?_⟩;simp only[fY,eT]at h
  cases hq:ev G c ρ M with
  | ok w M1 =>
   rw[hq]at h;intro v H1 ah g1 m1 r1
   cases ho:own w M1 with
   | ok d M2 =>
    have h:sv K ads H R ((own w M1).bind λd M=>(a8 G cs ρ M).bind λds M=>.ok (d::ds) M):=h;rw[ho]at h;obtain⟨aM,g2,m2,rd⟩:=kA s.mem g1 m1 r1 ho;have h:sv K ads H R ((a8 G cs ρ M2).bind λds M=>.ok (d::ds) M):=h
    have h2:sv K aM H1 (λvs H'=>R (v::vs) H') (a8 G cs ρ M2):=by
     cases Bg:a8 G cs ρ M2 with
     | ok ds M3 =>
      rw[Bg]at h;intro vs H3 cQ g3 m3 r3;refine h (v::vs) H3 cQ (g2.trans g3) m3 ?_;unfold aT;exact⟨v,vs,rfl,g3.rd _ _ rd,r3⟩
     | err _ _=>rw[Bg]at h;exact EX.shift (show EX.post K ads H _ _ from h) g2
     | ae=>rw[Bg]at h;exact h
    have ih:=sJ ks cs (by simpa using e) (s.grow g2 m2) h2
    have mono:∀(l9:List (TE×TE))(H:Hp)(P Q:List (V×V)->Hp->Prop),(∀ps H,P ps H->Q ps H)->(∀t∈l9,(∀σ H A B,(∀v H,A v H->B v H)->t.1 σ H A->t.1 σ H B)/\(∀σ H A B,(∀v H,A v H->B v H)->t.2 σ H A->t.2 σ H B))->gk l9 σ H P->gk l9 σ H Q:=by
     intro l9
     induction l9 with
     | nil=>intro H P Q f _ h;exact f _ _ h
     | cons t l9 ih =>
      intro H P Q f hm h;obtain⟨m1,m2⟩:=hm t dD;refine m1 σ H _ _ (λx H1 h1=>m2 σ H1 _ _ (λy H2 h2=>ih H2 _ _ (λps H3 h3=>f _ _ h3) (λt ht=>hm t (dB _ ht)) h2) h1) h
    refine mono _ _ _ _ ?_ ?_ ih
    ·rintro ps H3 ⟨vs,rfl,hl,hR⟩;exact⟨v::vs,rfl,by simp[hl],hR⟩
    ·intro t ht;exact mI ks cs t ht
   | err _ _=>cases w<;>cases ho
   | ae=>cases w<;>cases ho
  | err _ _=>rw[hq]at h;exact h
  | ae=>rw[hq]at h;exact h
theorem Br{ks:List Str}{cs:List C}:∀{keys:List (Option Expr)}{vs:List Expr}{pos:Pos},jB ks keys=true->ks.length=cs.length->bu cc cs vs=true->(∀c∈cs,∀e,bw cc c e=true->PE X e (tE X.K (ev G c)))->Ld X pos keys vs (kE X.K G ks cs):=by
 induction ks generalizing cs with
 | nil =>
  intro keys vs pos h1 h2 h3 ih
  cases keys with
  | cons _ _=>cases h1
  | nil =>
   cases cs with
   | cons _ _=>cases h2
   | nil =>
    cases vs with
    | cons _ _=>cases h3
    | nil=>exact DJ
 | cons k ks Xd =>
  intro keys vs pos h1 h2 h3 ih
  cases cs with
  | nil=>cases h2
  | cons c cs =>
   cases vs with
   | nil=>cases h3
   | cons e es =>
    have h':(aE e&&bw cc c e&&bu cc cs es)=true:=h3;simp only[av]at h'
    cases keys with
    | nil=>cases h1
    | cons ky keys =>
     cases ky with
     | none=>cases h1
     | some ke =>
      obtain⟨h1,hk⟩:=(av _ _).mp h1;refine cW (P:=λke=>Ld X pos (some ke::keys) (e::es) _) h1 λcn j p h1=>?_;cases cn<;>first | exact absurd (show false=true from h1) au | skip
      rename_i st
      obtain rfl:k=st:=eq_of_beq h1;exact z9 zI (ih c dD e h'.1.2) (Xd hk (by simpa using h2) h'.2 λc hc=>ih c (dB _ hc))
theorem jF:∀{ks:List Str}{keys:List (Option Expr)},jB ks keys=true->keys.all (·.isSome)=true/\keys.length=ks.length
 | [],[],_=>⟨rfl,rfl⟩
 | [],_::_,h=>by cases h
 | _::_,[],h=>by cases h
 | k::ks,ky::keys,h=>by
  cases ky with
  | none=>cases h
  | some ke =>
   obtain⟨a,b⟩:=jF ((av _ _).mp h).2;exact⟨by simp[a],by simp[b]⟩
theorem sL:∀{cs:List C}{es:List Expr},bu cc cs es=true->cs.length=es.length
 | [],[],_=>rfl
 | [],_::_,h=>by cases h
 | _::_,[],h=>by cases h
 | c::cs,e::es,h=>by
  have h':(aE e&&bw cc c e&&bu cc cs es)=true:=h;simp only[av]at h';simp[sL h'.2]
theorem wm{α β:Type}:∀(l:List α)(r:List β),l.length=r.length->(l.zip r).map (·.1)=l
 | [],_,_=>by simp
 | a::l,[],h=>by simp at h
 | a::l,b::r,h=>by simp[wm l r (by simpa using h)]
theorem wq{K:PySem.W.Frag}{ads:List Addr}{H:Hp}:∀(ks:List bC){ds:List D}{vs:List V},aT K ads H ds vs->ks.length=ds.length->bN K ads H (ks.zip ds) (ks.zip vs)
 | [],ds,vs,r,h=>by simp;unfold bN;rfl
 | k::ks,[],vs,r,h=>by simp at h
 | k::ks,d::ds,vs,r,h=>by
  unfold aT at r;obtain⟨x,r',rfl,h1,h2⟩:=r;show bN K ads H ((k,d)::ks.zip ds) ((k,x)::ks.zip r');unfold bN;exact⟨_,_,rfl,rfl,h1,wq ks h2 (by simpa using h)⟩
theorem Jz{pos:Pos}:PE X (.Dict [] [] pos) (tE X.K (ev G (.vU [] []))):=by
 refine fj z7 λσ H Q q=>?_;obtain⟨ads,M,ρ,s,q⟩:=q;intro p hp
 have q:bQ X.K ads H Q (.ok (.d (.aC M.length)) (M++[.dK []])):=by
  simp only[uz,fY,eT]at q;exact q
 exact q.SY s.mem hp (show bN X.K ads H [] [] by unfold bN;rfl)
theorem JA{pos:Pos}:PE X (.Dict [] [] pos) (tE X.K (ev G .lx)):=fj z8 λσ H Q q=>by
 obtain⟨ads,M,ρ,s,q⟩:=q;intro p hp;have np:=s.mem.fresh hp;refine q (.ref p) _ (ads++[p]) ?_ ((s.mem.dM (o:=.dT []) hp).push np ⟨[],aB,rfl⟩) ?_
 ·exact⟨⟨[p],rfl⟩,λb hb nb=>by
   rcases gO.mp hb with z | z
   ·exact absurd z nb
   ·rw[xE.mp z];exact hp,λb u n e=>by rw[ai (λz=>by subst z;rw[hp]at e;cases e)];exact e,λb xs e=>by rw[ai (λz=>by subst z;rw[hp]at e;cases e)];exact e,λb u x e=>by rw[ai (λz=>by subst z;rw[hp]at e;cases e)];exact e⟩
 ·show RD X.K (ads++[p]) (a_ H p (.dT [])) (.aC M.length) (.ref p);unfold RD;exact⟨p,rfl,by rw[m9 (by rw[s.mem.len];exact ar _)];simp[s.mem.len]⟩
theorem Oh{ks:List Str}{cs:List C}{keys:List (Option Expr)}{vs:List Expr}{pos:Pos}(h1:jB ks keys=true)(hn:ks.Nodup)(h0:keys≠[])(Le:keys.length<=15)(hc:bu cc cs vs=true)(hl:ks.length=cs.length)(ih:∀c∈cs,∀e,bw cc c e=true->PE X e (tE X.K (ev G c))):PE X (.Dict keys vs pos) (tE X.K (ev G (.vU ks cs))):=by
 obtain⟨k1,k2⟩:=jF h1;refine fj (DK (Br h1 hl hc ih) k1 (by rw[k2,hl,sL hc]) h0 Le) λσ H Q q=>?_;obtain⟨ads,M,ρ,s,q⟩:=q;intro p hp;have Vh:=s.mem.fresh hp;have g0:ay ads ads H (a_ H p (.dK [])):=ay.dM s.mem hp;have s0:SR X.K ads M ρ σ (a_ H p (.dK [])):=s.grow g0 (s.mem.dM hp);simp only[uz]at q
 have main:sv X.K ads (a_ H p (.dK [])) (λvs H2=>H2 p=some (.dK [])/\(vs.length=ks.length->Q (.ref p) (a_ H2 p (.dK ((ks.map Sum.inr).zip vs))))) (a8 G cs ρ M):=by
  cases hq:a8 G cs ρ M with
  | ok ds M1 =>
   rw[hq]at q;have q:bQ X.K ads H Q (if ks.length=ds.length then .ok (.d (.aC M1.length)) (M1++[.dK ((ks.map Sum.inr).zip ds)]) else .ae):=q;split at q
   ·rename_i Xe
    intro vs H2 aM g2 m2 r2;have e2:H2 p=some (.dK []):=g2.kept p _ Vh aB;refine⟨e2,λQp=>?_⟩;have Vi:p∉aM:=g2.gB Vh aB;have tk:TF H2 (a_ H2 p (.dK ((ks.map Sum.inr).zip vs))):=⟨λb xs h=>by rw[ai (λz=>by subst z;rw[e2]at h;cases h)];exact h,λb o u h=>by rw[ai (λz=>by subst z;rw[e2]at h;cases h)];exact h,λb gs h=>by rw[ai (λz=>by subst z;rw[e2]at h;cases h)];exact h⟩;have m3:aD X.K aM (a_ H2 p (.dK ((ks.map Sum.inr).zip vs))) M1:=m2.keep tk λa ha=>ai (λz=>by subst z;exact Vi ha);have r3:=aT.keep (K:=X.K) (ads:=aM) tk _ _ r2;have m4:=m3.push (o:=.dK ((ks.map Sum.inr).zip ds)) Vi ⟨_,aB,wq (ks.map Sum.inr) r3 (by simpa using Xe)⟩;obtain⟨t,et⟩:=g2.pre;refine q (.ref p) _ (aM++[p]) ⟨⟨t++[p],by rw[et,xF]⟩,λb hb nb=>?_,λb x nb h=>?_,λb xs h=>?_,λb o u h=>?_⟩ m4 ?_
    ·rcases gO.mp hb with z | z
     ·have:=g2.new b z nb;by_cases Bs:b=p
      ·subst Bs;exact hp
      ·rw[ai Bs]at this;exact this
     ·have:b=p:=by simpa using z
      subst this;exact hp
    ·have Bs:b≠p:=λz=>by subst z;rw[hp]at h;cases h
     rw[ai Bs];exact g2.kept b x nb (by rw[ai Bs];exact h)
    ·have Bs:b≠p:=λz=>by subst z;rw[hp]at h;cases h
     rw[ai Bs];exact g2.fQ b xs (by rw[ai Bs];exact h)
    ·have Bs:b≠p:=λz=>by subst z;rw[hp]at h;cases h
     rw[ai Bs];exact g2.gA b o u (by rw[ai Bs];exact h)
    ·show RD X.K (aM++[p]) (a_ H2 p (.dK ((ks.map Sum.inr).zip vs))) (.aC M1.length) (.ref p);unfold RD;exact⟨p,rfl,by rw[m9 (by rw[m2.len];exact ar _)];simp[m2.len]⟩
   ·exact q.elim
  | err _ _=>rw[hq]at q;exact EX.shift (show EX.post X.K ads H _ _ from q) (ay.dM s.mem hp)
  | ae=>rw[hq]at q;exact q
 have h:=sJ ks cs hl s0 main
 have mono:∀(l9:List (TE×TE))(H:Hp)(P Q:List (V×V)->Hp->Prop),(∀ps H,P ps H->Q ps H)->(∀t∈l9,(∀σ H A B,(∀v H,A v H->B v H)->t.1 σ H A->t.1 σ H B)/\(∀σ H A B,(∀v H,A v H->B v H)->t.2 σ H A->t.2 σ H B))->gk l9 σ H P->gk l9 σ H Q:=by
  intro l9
  induction l9 with
  | nil=>intro H P Q f _ h;exact f _ _ h
  | cons t l9 ih =>
   intro H P Q f hm h;obtain⟨m1,m2⟩:=hm t dD;refine m1 σ H _ _ (λx H1 h1=>m2 σ H1 _ _ (λy H2 h2=>ih H2 _ _ (λps H3 h3=>f _ _ h3) (λt ht=>hm t (dB _ ht)) h2) h1) h
 refine mono _ _ _ _ ?_ (mI ks cs) h;rintro ps H2 ⟨vs,rfl,Qp,e2,hQ⟩;refine⟨e2,(ks.map Sum.inr).zip vs,?_,?_,?_⟩
 ·rw[List.zip_map_left,List.zip_map_left,List.map_map];rfl
 ·rw[List.length_zip,cM,Qp];omega
 ·have JB:((([]:List (bC×V)).map (·.1))++((ks.map (Sum.inr (α:=Int))).zip vs).map (·.1)).Nodup:=by
   rw[wm _ _ (by rw[cM];exact Qp.symm)];simp only[xU,Dd];exact List.Pairwise.map _ (λa b Xf z=>Xf (Sum.inr.inj z)) hn
  rw[jE _ _ JB];exact hQ Qp
end
end
section
variable [EX]
def GC(K:PySem.W.Frag)(ads:List Addr)(H:Hp)(it:Ev.It)(J:L2.It):Prop :=
 ∀(i:Nat)(ah:List Addr)(H1:Hp)(M1:ag),ay ads ah H H1->aD K ah H1 M1 ->
  (itemAt M1 i it=some none->J.stop i H1) /\
  (∀d,itemAt M1 i it=some (some d)->J.go i H1/\∀x H2,J.Lb i H1 x H2->ay ah ah H1 H2/\aD K ah H2 M1/\RD K ah H2 d x)
def jG(K:PySem.W.Frag)(ads:List Addr)(H:Hp)(R:L2.It->Hp->Prop):bF Ev.It->Prop
 | .ok it M=>∀J H' ax,ay ads ax H H'->aD K ax H' M->GC K ax H' it J->R J H'
 | .err x M=>EX.post K ads H x M
 | .ae=>False
def tI(K:PySem.W.Frag)(o:En->ag->bF Ev.It):TI:=λσ H R=>∃ads M ρ,SR K ads M ρ σ H/\jG K ads H R (o ρ M)
def dh(G:a9)(k:SK)(cU:List C)(ρ:En)(M:ag):bF Ev.It:=(cV G cU ρ M).bind λws M=>jy k ws M
section
variable {K:PySem.W.Frag} {ads:List Addr} {H:Hp} {M:ag}
theorem EN(lo:Int)(n:Nat):GC K ads H (.jV lo n) (P2 lo n):=by
 intro i ah H1 M1 g1 m1;refine⟨λe=>?_,λd e=>?_⟩
 ·by_cases h:i<n
  ·simp[itemAt,h]at e
  ·exact xY.mp h
 ·by_cases h:i<n
  ·simp only[itemAt,aU h,qW]at e;subst e;refine⟨h,λx H2 y=>?_⟩;obtain⟨rfl,rfl⟩:=y;exact⟨ay.refl _ _,m1,cB _⟩
  ·simp[itemAt,h]at e
theorem mJ{it:Ev.It}{a:Addr}(h:∀(i:Nat)(ah:List Addr)(H1:Hp)(M1:ag),ay ads ah H H1->aD K ah H1 M1->∀o,itemAt M1 i it=some o->∃ds xs,o=ds[i]?/\aT K ah H1 ds xs/\fv K H1 a xs):GC K ads H it (Rz K a):=by
 intro i ah H1 M1 g1 m1;refine⟨λe=>?_,λd e=>?_⟩
 ·obtain⟨ds,xs,e2,rd,sq⟩:=h i ah H1 M1 g1 m1 _ e;refine⟨xs,sq,?_⟩;rw[<- rd.len];exact Hc.mp e2.symm
 ·obtain⟨ds,xs,e2,rd,sq⟩:=h i ah H1 M1 g1 m1 _ e;obtain⟨v,ev,rv⟩:=rd.get e2.symm;refine⟨⟨xs,v,sq,ev⟩,λx H2 y=>?_⟩;obtain⟨rfl,y⟩:=y;have:=y xs sq;rw[ev]at this;cases this;exact⟨ay.refl _ _,m1,rv⟩
theorem EO{ds:List D}{xs:List V}{a:Addr}(ha:H a=some (.tup xs))(rd:aT K ads H ds xs):GC K ads H (.items ds) (RA K a):=by
 intro i ah H1 M1 g1 m1;have sq:fS K H1 a xs:=fS.of (g1.fQ _ _ ha);have Xg:=g1.nD _ _ rd;refine⟨λe=>?_,λd e=>?_⟩
 ·refine⟨xs,sq,?_⟩;rw[<- rd.len];exact Hc.mp (cu e)
 ·obtain⟨v,ev,rv⟩:=Xg.get (cu e);refine⟨⟨xs,v,sq,ev⟩,λx H2 y=>?_⟩;obtain⟨rfl,y⟩:=y;have:=y xs sq;rw[ev]at this;cases this;exact⟨ay.refl _ _,m1,rv⟩
theorem ER{x:Str}:GC K ads H (.items (dI x)) (SM x):=by
 intro i ah H1 M1 g1 m1
 have hc:(dI x)[i]?=(x.cps[i]?).map λc=>D.str ⟨#[c]⟩:=by
  unfold dI;rw[ji,Array.getElem?_toList]
 refine⟨λe=>?_,λd e=>?_⟩
 ·have e:(dI x)[i]?=none:=cu e;rw[hc]at e;exact Array.getElem?_eq_none_iff.mp (Option.map_eq_none_iff.mp e)
 ·have e:(dI x)[i]?=some d:=cu e;rw[hc]at e;obtain⟨c,ec,rfl⟩:=CT.mp e;refine⟨(zi.mp ec).1,λy H2 z=>?_⟩;obtain⟨rfl,c',Vj,rfl⟩:=z;rw[ec]at Vj;cases Vj;exact⟨ay.refl _ _,m1,by unfold RD;rfl⟩
end
theorem wt{K:PySem.W.Frag}{ads:List Addr}{H:Hp}{M:ag}{n:Nat}{v:V}{p:Bool×List D}(m:aD K ads H M)(r:RD K ads H (.aC n) v)(hp:bD M (.d (.aC n))=some p):∃a,v=.ref a/\∃xs,fv K H a xs:=by
 obtain⟨l,ds⟩:=p;obtain⟨a,xs,e,rd,sq⟩:=eD (w:=.d (.aC n)) m r hp;rcases sq with⟨_,sq⟩|⟨hl,_⟩
 ·exact⟨a,e,xs,sq⟩
 ·simp only[bD]at hp;split at hp
  ·cases hp;cases hl
  ·cases hp;cases hl
  ·cases hp
theorem sM{K:PySem.W.Frag}{ads aM:List Addr}{H H2:Hp}{M2:ag}{n i:Nat}{a:Addr}{o:Option D}(r:RD K ads H (.aC n) (.ref a))(g2:ay ads aM H H2)(m2:aD K aM H2 M2)(e:itemAt M2 i (.at n)=some o):∃ds xs,o=ds[i]?/\aT K aM H2 ds xs/\fv K H2 a xs:=by
 unfold RD at r;obtain⟨b,eb,ea⟩:=r;cases eb;have Vk:=g2.get ea;simp only[itemAt]at e;split at e
 ·rename_i ds q
  obtain⟨xs,h,rd⟩:=m2.obj n _ a q Vk;exact⟨ds,xs,(cu e).symm,rd,fv.of h⟩
 ·rename_i ds q
  obtain⟨o,xs,h,rd⟩:=m2.obj n _ a q Vk;exact⟨ds,xs,(cu e).symm,rd,.inl (.inr ⟨o,h⟩)⟩
 ·cases e
section
variable {kk:Nat} {X:Cx} {cc:CC} {G:a9} {tg:Expr} {K:PySem.W.Frag} {ads:List Addr} {H:Hp}
theorem Vl{aH:Expr}{t u:TI}(h:PI X tg aH t)(f:∀σ H R,u σ H R->t σ H R):PI X tg aH u:=λaa s σ H R I q=>h aa s σ H R I (f σ H R q)
theorem ES{c:C}{aH:Expr}(he:PE X aH (tE X.K (ev G c))):PI X tg aH (tI X.K (dh G .seq [c])):=by
 intro aa s σ H R I q;obtain⟨ads,M,ρ,sr,q⟩:=q;simp only[dh,cV]at q
 cases hq:ev G c ρ M with
 | ok w M1 =>
  rw[hq]at q;have q:jG X.K ads H R (jy .seq [w] M1):=q
  cases w with
  | lv ds =>
   have q:jG X.K ads H R (.ok (.items ds) M1):=q;refine pq he aa s σ H R I ⟨ads,M,ρ,sr,?_⟩;rw[hq];intro v H1 ah g1 m1 r1;obtain⟨a,xs,rfl,h0,h1,n,rd⟩:=r1;refine⟨a,rfl,⟨xs,fv.of h1⟩,q _ H1 ah g1 m1 (mJ λi aM H2 M2 g2 m2 o e=>?_)⟩;exact⟨ds,xs,(cu e).symm,g2.nD _ _ rd,fv.of (g2.kept a _ n h1)⟩
  | d x =>
   cases x with
   | tup ds =>
    have q:jG X.K ads H R (.ok (.items ds) M1):=q;refine zP he aa s σ H R I ⟨ads,M,ρ,sr,?_⟩;rw[hq];intro v H1 ah g1 m1 r1;have r1:RD X.K ah H1 (.tup ds) v:=r1;unfold RD at r1;obtain⟨a,xs,rfl,h1,rd⟩:=r1;exact⟨a,rfl,⟨xs,fS.of h1⟩,q _ H1 ah g1 m1 (EO h1 rd)⟩
   | ls ds =>
    have q:jG X.K ads H R (.ok (.items ds) M1):=q;refine pq he aa s σ H R I ⟨ads,M,ρ,sr,?_⟩;rw[hq];intro v H1 ah g1 m1 r1;have r1:RD X.K ah H1 (.ls ds) v:=r1;unfold RD at r1;obtain⟨a,xs,rfl,h1,rd⟩:=r1;refine⟨a,rfl,⟨xs,h1.sq⟩,q _ H1 ah g1 m1 (mJ λi aM H2 M2 g2 m2 o e=>?_)⟩;exact⟨ds,xs,(cu e).symm,g2.nD _ _ rd,(g2.iZ h1).sq⟩
   | aC n =>
    have q:jG X.K ads H R (if (bD M1 (.d (.aC n))).isSome then .ok (.at n) M1 else .ae):=q;split at q
    ·rename_i hs
     obtain⟨p,hp⟩:=xv.mp hs;refine pq he aa s σ H R I ⟨ads,M,ρ,sr,?_⟩;rw[hq];intro v H1 ah g1 m1 r1;obtain⟨a,ea,sq⟩:=wt m1 r1 hp;subst ea;exact⟨a,rfl,sq,q _ H1 ah g1 m1 (mJ λi aM H2 M2 g2 m2 o e=>sM r1 g2 m2 e)⟩
    ·exact q.elim
   | aK=>exact q.elim
   | bl _=>exact q.elim
   | int _=>exact q.elim
   | str x =>
    have q:jG X.K ads H R (if (x.cps.all λc=>decide (c<128))=true then .ok (.items (dI x)) M1 else .ae):=q;split at q
    ·rename_i ha
     refine IQ he aa s σ H R I ⟨ads,M,ρ,sr,?_⟩;rw[hq];intro v H1 ah g1 m1 r1;have r1:RD X.K ah H1 (.str x) v:=r1;unfold RD at r1;exact⟨x,r1,ha,q _ H1 ah g1 m1 ER⟩
    ·exact q.elim
 | err _ _=>rw[hq]at q;exact zP he aa s σ H R I ⟨ads,M,ρ,sr,by rw[hq];exact q⟩
 | ae=>rw[hq]at q;exact q.elim
theorem Bt{c:C}{a:Expr}{x:Str}{p pos:Pos}(g:Good kk X cc G) (hx:x = "range") (hg:glob cc x=true) (hs:aE a=true) (he:PE X a (tE X.K (ev G c))):PI X tg (.Call (.Name x p) [a] [] pos) (tI X.K (dh G .fb [c])):=by
 have sI:=g.gl hg;have hm:X.mg x=none:=g.blt x (by subst hx;show _∈cI;decide +kernel);subst hx;refine Vl (yb sI hm (eL he iW (bq hs [] X.env)) (bq hs [] X.env)) λσ H R q=>?_;obtain⟨ads,M,ρ,s,q⟩:=q;simp only[dh,cV]at q;refine⟨ads,M,ρ,s,?_⟩
 cases hq:ev G c ρ M with
 | ok w M1 =>
  rw[hq]at q;have q:jG X.K ads H R (jy .fb [w] M1):=q;intro v H1 ah g1 m1 r1;rcases w with⟨_|_ | j | _|_|_⟩|_<;>first | exact q.elim | skip
  have q:jG X.K ads H R (if -(2 ^ 62)<=j/\j<2 ^ 62 then .ok (.jV 0 j.toNat) M1 else .ae):=q;split at q
  ·rename_i hj
   exact⟨j,by rw[aV r1],hj.1,hj.2,q _ H1 ah g1 m1 (EN _ _)⟩
  ·exact q.elim
 | err _ _=>rw[hq]at q;exact q
 | ae=>rw[hq]at q;exact q.elim
theorem jH{it:Ev.It}{l:Bool}{a:Addr}(h:∀(i:Nat)(ah:List Addr)(H1:Hp)(M1:ag),ay ads ah H H1->aD K ah H1 M1->∀o,itemAt M1 i it=some o->∃ds xs,o=(ds[i]?.map λd=>D.tup [.int i,d])/\aT K ah H1 ds xs/\Lj K H1 l a xs):GC K ads H it (Qg K l a):=by
 intro i ah H1 M1 g1 m1;refine⟨λe=>?_,λd e=>?_⟩
 ·obtain⟨ds,xs,e2,rd,sq⟩:=h i ah H1 M1 g1 m1 _ e;refine⟨xs,sq,?_⟩;rw[<- rd.len]
  cases q:ds[i]? with
  | none=>exact Hc.mp q
  | some d=>rw[q]at e2;cases e2
 ·obtain⟨ds,xs,e2,rd,sq⟩:=h i ah H1 M1 g1 m1 _ e
  cases q:ds[i]? with
  | none=>rw[q]at e2;cases e2
  | some d' =>
   rw[q]at e2;cases e2;obtain⟨v,ev,rv⟩:=rd.get q;refine⟨⟨xs,v,sq,ev⟩,λx H2 y=>?_⟩;obtain⟨p,y,rfl,hp,rfl,uf⟩:=y;have:=uf xs sq;rw[ev]at this;cases this;refine⟨ay.dM m1 hp,m1.dM hp,?_⟩;have g2:=ay.dM (o:=.tup [.int i,v]) m1 hp;unfold RD;refine⟨p,_,rfl,aB,?_⟩;unfold aT;exact⟨.int i,[v],rfl,cB _,.one (g2.rd _ _ rv)⟩
theorem Bu{c:C}{a t:Expr}{x:Str}{p pos:Pos}(g:Good kk X cc G) (hx:x = "enumerate") (ht:iu t=true) (hg:glob cc x=true) (hs:aE a=true) (he:PE X a (tE X.K (ev G c))):PI X t (.Call (.Name x p) [a] [] pos) (tI X.K (dh G .enum [c])):=by
 have sI:=g.gl hg;have hm:X.mg x=none:=g.blt x (by subst hx;show _∈cI;decide +kernel);subst hx;cases t<;>first | cases ht | skip
 refine Vl (D5 sI hm (eL he iW (bq hs [] X.env)) (bq hs [] X.env)) λσ H R q=>?_;obtain⟨ads,M,ρ,s,q⟩:=q;simp only[dh,cV]at q;refine⟨ads,M,ρ,s,?_⟩
 cases hq:ev G c ρ M with
 | ok w M1 =>
  rw[hq]at q;have q:jG X.K ads H R (jy .enum [w] M1):=q;intro v H1 ah g1 m1 r1;rcases w with⟨_|_|_|_ | ds | n | ds⟩ | ds<;>first | exact q.elim | skip
  ·have q:jG X.K ads H R (.ok (.gn ds) M1):=q;have r1:RD X.K ah H1 (.tup ds) v:=r1;unfold RD at r1;obtain⟨b,xs,rfl,h1,rd⟩:=r1;refine⟨false,b,rfl,⟨xs,fS.of h1⟩,q _ H1 ah g1 m1 (jH λi aM H2 M2 g2 m2 o e=>⟨ds,xs,(cu e).symm,g2.nD _ _ rd,fS.of (g2.fQ _ _ h1)⟩)⟩
  ·have q:jG X.K ads H R (if (bD M1 (.d (.aC n))).isSome then .ok (.pV n) M1 else .ae):=q;split at q
   ·rename_i hs
    obtain⟨p,hp⟩:=xv.mp hs;obtain⟨b,ea,sq⟩:=wt m1 r1 hp;subst ea;refine⟨true,b,rfl,sq,q _ H1 ah g1 m1 (jH λi aM H2 M2 g2 m2 o e=>?_)⟩
    have e':∃o',itemAt M2 i (.at n)=some o'/\o=o'.map λd=>D.tup [.int i,d]:=by
     simp only[itemAt]at e⊢;split at e
     ·exact⟨_,rfl,(cu e).symm⟩
     ·exact⟨_,rfl,(cu e).symm⟩
     ·cases e
    obtain⟨o',e1,e2⟩:=e';obtain⟨ds,xs,e3,rd,Xh⟩:=sM r1 g2 m2 e1;exact⟨ds,xs,by rw[e2,e3],rd,Xh⟩
   ·exact q.elim
  ·have q:jG X.K ads H R (.ok (.gn ds) M1):=q;have r1:RD X.K ah H1 (.ls ds) v:=r1;unfold RD at r1;obtain⟨b,xs,rfl,h1,rd⟩:=r1;exact⟨true,b,rfl,⟨xs,h1.sq⟩,q _ H1 ah g1 m1 (jH λi aM H2 M2 g2 m2 o e=>⟨ds,xs,(cu e).symm,g2.nD _ _ rd,(g2.iZ h1).sq⟩)⟩
  ·have q:jG X.K ads H R (.ok (.gn ds) M1):=q;obtain⟨b,xs,rfl,h0,h1,n,rd⟩:=r1;exact⟨true,b,rfl,⟨xs,fv.of h1⟩,q _ H1 ah g1 m1 (jH λi aM H2 M2 g2 m2 o e=>⟨ds,xs,(cu e).symm,g2.nD _ _ rd,fv.of (g2.kept b _ n h1)⟩)⟩
 | err _ _=>rw[hq]at q;exact q
 | ae=>rw[hq]at q;exact q.elim
end
end
section
variable [EX]
def tG(K:PySem.W.Frag)(tg:List Nat):TG:=λv σ H Q=>∃ads M ρ d,SR K ads M ρ σ H/\RD K ads H d v/\∃dJ,bI tg d ρ=some dJ/\∀cD,SR K ads M dJ cD H->Q cD H
theorem SR.set{K:PySem.W.Frag}{ads:List Addr}{M:ag}{ρ:En}{σ:L2.St}{H:Hp}(s:SR K ads M ρ σ H)(i:Nat){d:D}{v:V}(r:RD K ads H d v):SR K ads M (ρ.set i (some d)) (σ.set i (some v)) H :=
 ⟨s.mem,λj d' e=>by
  by_cases h:i=j
  ·subst h
   have hl:i<ρ.length:=by
    have:=(d4.mp e).1;simpa using this
   rw[tW hl]at e;cases e;exact⟨v,by rw[tW (by rw[<- s.ln];exact hl)],r⟩
  ·rw[lL h]at e⊢;exact s.en j d' e,by simp[s.ln]⟩
def gN:List Nat->F6
 | []=>MC
 | i::r=>F8 (F7 i) (gN r)
section
variable {kk:Nat} {X:Cx} {cc:CC} {G:a9}
theorem bW.nm(g:bW kk X cc G){x:Str}(h:(cc.names.lookup x==some .local||cc.names.lookup x==some .cell)=true):Loc X.env.scope x/\(X.fn x=true\/X.env.scope.names.lookup x=some .local):=by
 rw[Dg]at h;rcases h with h | h
 ·have h:=eq_of_beq h;exact⟨.inl (g.kinds x _ h),.inr (g.kinds x _ h)⟩
 ·have h:=eq_of_beq h;exact⟨.inr (g.kinds x _ h),.inl (g.S3 x h)⟩
theorem wu(g:Good kk X cc G):∀(tg:List Nat)(es:List Expr),jC cc tg es=true->La X es (gN tg)/\es.length=tg.length/\(assignEach es X.env).length=tg.length/\(assignEach es X.env).findIdx? (·.1)=none
 | [],[],_=>⟨Du,rfl,rfl,rfl⟩
 | [],_::_,h=>by cases h
 | _::_,[],h=>by cases h
 | i::tg,e::es,h=>by
  obtain⟨h,h3⟩:=(av _ _).mp h;obtain⟨ih,l1,l2,l3⟩:=wu g tg es h3;refine aF (P:=λe=>La X (e::es) (gN (i::tg))/\(e::es).length=(i::tg).length/\(assignEach (e::es) X.env).length=(i::tg).length/\(assignEach (e::es) X.env).findIdx? (·.1)=none) h λx p h=>?_;obtain⟨h1,h2⟩:=(av _ _).mp h;obtain⟨n1,n2⟩:=g.nm h2;refine⟨zM (lz (by rw[g.N];exact g.nd) (by rw[g.N];exact eq_of_beq h1) n1 n2) ih,by simp[l1],?_,?_⟩
  ·show(assignEach es X.env).length+1=_;rw[l2];rfl
  ·show List.findIdx? _ ((false,_)::assignEach es X.env)=none;rw[List.findIdx?_cons];simp only[xD,ni];rw[l3];rfl
theorem GD{K:PySem.W.Frag}{ads:List Addr}{M:ag}{H:Hp}{Q:L2.St->Hp->Prop}{dJ:En}(hQ:∀cD,SR K ads M dJ cD H->Q cD H):∀(tg:List Nat)(ds:List D)(xs:List V)(ρ:En)(σ:L2.St),SR K ads M ρ σ H->aT K ads H ds xs->dw tg ds ρ=some dJ->gN tg xs σ H Q
 | [],[],xs,ρ,σ,s,r,e=>by
  unfold aT at r;subst r;cases e;exact⟨rfl,hQ σ s⟩
 | [],_::_,_,_,_,_,_,e=>by cases e
 | _::_,[],_,_,_,_,_,e=>by cases e
 | i::tg,d::ds,xs,ρ,σ,s,r,e=>by
  unfold aT at r;obtain⟨x,r',rfl,h1,h2⟩:=r;exact⟨x,r',rfl,GD hQ tg ds r' _ _ (s.set i h1) h2 e⟩
theorem mK:∀(tg:List Nat)(ds:List D)(ρ dJ:En),dw tg ds ρ=some dJ->ds.length=tg.length
 | [],[],_,_,_=>rfl
 | [],_::_,_,_,e=>by cases e
 | _::_,[],_,_,e=>by cases e
 | i::tg,d::ds,ρ,dJ,e=>by simp[mK tg ds _ dJ e]
theorem yQ(g:bW kk X cc G){i:Nat}{t:Expr}(h:gZ cc [i] t=true):PG X t (tG X.K [i]):=by
 refine aF (P:=λt=>PG X t _) ((av _ _).mp h).1 λx p h=>?_;obtain⟨h1,h2⟩:=(av _ _).mp h;obtain⟨n1,n2⟩:=g.nm h2;intro aa s σ H v u Q I r q;refine lz (by rw[g.N];exact g.nd) (by rw[g.N];exact eq_of_beq h1) n1 n2 aa s σ H v u Q I r ?_;obtain⟨ads,M,ρ,d,sr,rd,dJ,e,hQ⟩:=q;cases e;exact hQ _ (sr.set i rd)
theorem jI(g:Good kk X cc G){tg:List Nat}{t:Expr}(h:gZ cc tg t=true):PG X t (tG X.K tg):=by
 rcases tg with _|⟨i,_|⟨j,tl⟩⟩
 ·exact absurd h au
 ·refine aF (P:=λt=>PG X t _) ((av _ _).mp h).1 λx p h=>?_;obtain⟨h1,h2⟩:=(av _ _).mp h;obtain⟨n1,n2⟩:=g.nm h2;intro aa s σ H v u Q I r q;refine lz (by rw[g.N];exact g.nd) (by rw[g.N];exact eq_of_beq h1) n1 n2 aa s σ H v u Q I r ?_;obtain⟨ads,M,ρ,d,sr,rd,dJ,e,hQ⟩:=q;cases e;exact hQ _ (sr.set i rd)
 ·refine ff (P:=λt=>PG X t _) h λes kq p h=>?_;obtain⟨a,l1,l2,l3⟩:=wu g (i::j::tl) es ((av _ _).mp h).1;intro aa s σ H v u Q I r q;refine HS (pos:=p) (k:=kq) g.calm a l2 l3 aa s σ H v u Q I r ?_;obtain⟨ads,M,ρ,d,sr,rd,dJ,e,hQ⟩:=q
  have e':∃ds,d=.tup ds/\dw (i::j::tl) ds ρ=some dJ:=by
   cases d<;>first | cases e | exact⟨_,rfl,e⟩
  obtain⟨ds,rfl,e2⟩:=e';unfold RD at rd;obtain⟨b,xs,rfl,hb,rd⟩:=rd;exact⟨b,xs,rfl,fS.of hb,by rw[<- rd.len,mK _ ds ρ dJ e2],GD hQ _ ds xs ρ σ sr rd e2⟩
end
theorem je {env : Env} : ∀ (names : List (Str × NameKind)) (aI : List (Str × Addr)), (∀ y ∈ names, y.2 = .free -> ∃ c, env.cells.lookup y.1 = some c) -> (∀ x c, aI.lookup x = some c -> env.cells.lookup x = some c) ->
    ∃cl,(forIn names aI λ(x:Str×NameKind) (r:List (Str×Addr))=>(match x with | (name,kind)=>if (kind==NameKind.free)=true then do let a <- cellOf env name;pure (ForInStep.yield ((name,a)::r)) else pure (ForInStep.yield r):Sem (ForInStep (List (Str×Addr)))))=pure cl /\
      (∀x c,cl.lookup x=some c->env.cells.lookup x=some c)/\(∀x,(aI.lookup x).isSome=true->(cl.lookup x).isSome=true)/\∀y∈names,y.2=.free->(cl.lookup y.1).isSome=true
  | [],aI,_,h=>⟨aI,rfl,h,λ_ q=>q,λy hy=>by cases hy⟩
  | (n,k)::r,aI,hn,h=>by
    by_cases hk:k=.free
    · subst hk;obtain⟨c,hc⟩:=hn (n,.free) dD rfl
      have h2:∀x c',((n,c)::aI).lookup x=some c'->env.cells.lookup x=some c':=λx c' e=>by
        rw[dm]at e;by_cases hx:x=n
        · subst hx;simp at e;rw[<- e];exact hc
        · have:(x==n)=false:=iR.mpr hx;rw[this]at e;exact h x c' e
      obtain⟨cl,e1,e2,e3,e4⟩:=je r ((n,c)::aI) (λy hy=>hn y (dB _ hy)) h2;refine⟨cl,?_,e2,λx q=>e3 x ?_,λy hy hf=>?_⟩
      · rw[List.forIn_cons];have:cellOf env n=pure c:=by unfold cellOf;rw[hc]
        simp only[xJ,dE,this];exact e1
      · rw[dm];by_cases hx:(x==n)=true
        · simp[hx]
        · simp only[hx];exact q
      · rcases cq.mp hy with z | z
        · subst z;exact e3 _ (by simp[dm])
        · exact e4 y z hf
    · obtain⟨cl,e1,e2,e3,e4⟩:=je r aI (λy hy=>hn y (dB _ hy)) h;refine⟨cl,?_,e2,e3,λy hy hf=>?_⟩
      · rw[List.forIn_cons];have:(k==NameKind.free)=false:=by simpa using hk
        simp only[this,xD,ni];exact e1
      · rcases cq.mp hy with z | z
        · subst z;exact absurd hf hk
        · exact e4 y z hf
theorem wz{X:Cx}{sc:Scope}(h:∀y∈sc.names,y.2=.free->∃c,X.env.cells.lookup y.1=some c):∃cl,IF X sc cl:=by
 obtain⟨cl,e1,e2,e3,e4⟩:=je sc.names [] h (λx c e=>by cases e);refine⟨cl,?_,e2,λx hx=>xv.mp (e4 (x,.free) (jY hx) rfl)⟩;unfold closureFor;exact oZ (λm=>m >>= λcs=>pure cs) e1
section
variable {kk:Nat} {X:Cx} {cc:CC} {G:a9}
theorem lE{sc:Scope}(h:sD cc sc=true):sc.kind=.function/\(∀y∈sc.names,y.2=.cell->sc.names.lookup y.1=some .cell)/\(∀y∈sc.names,y.2=.local->sc.names.lookup y.1=some .local)/\(eE sc).Nodup/\∀y∈sc.names,y.2=.free->sc.names.lookup y.1=some .free/\(cc.names.lookup y.1=some .cell\/cc.names.lookup y.1=some .free):=by
 unfold sD at h;simp only[av,eB,gM,bne_iff_ne,ne_eq,oW,Dg]at h;obtain⟨⟨⟨⟨h1,h2⟩,h3⟩,h4⟩,h5⟩:=h;refine⟨h1,λy hy hk=>?_,λy hy hk=>?_,h4,λy hy hk=>?_⟩
 ·rcases h2 y hy with z | z
  ·exact absurd hk z
  ·exact z
 ·rcases h3 y hy with z | z
  ·exact absurd hk z
  ·exact z
 ·rcases h5 y hy with z | z
  ·exact absurd hk z
  ·exact z
theorem Good.block(g:Good kk X cc G){sc:Scope}(h:sD cc sc=true){cl:List (Str×Addr)}(C:Addr)(s:Shared)(H:Hp)(fp:List Addr):@Good never kk (X.block sc cl C (eE sc) s H fp []) (oF cc sc) G:=by
 obtain⟨h1,h2,h3,h4,h5⟩:=lE h;refine @Good.mk never kk (X.block sc cl C (eE sc) s H fp []) (oF cc sc) G ⟨g.rh,rfl,h4,(λx k e=>?_),(λx e=>?_),g.blt,g.Qm,(λ_ _ _ z=>nomatch z),(λ_ _ _ z=>nomatch z),(λ_ _ _ _ z=>nomatch z)⟩ g.calm g.room g.fns ⟨E0,(by rintro _ _ _ _ _ _ _ ⟨_,_,_,_,_,_,_,_,_,_,_,_,_,h⟩;exact h.elim),λh=>h.elim⟩
 ·have e:sc.names.lookup x=some k:=e;have r:=du (env:=X.env) e;have kd:(X.block sc cl C (eE sc) s H fp []).env.kindOf x=some (if (k==NameKind.free&&X.env.scope.kind == .function&&X.env.kindOf x==some .cell) then .cell else k):=r
  cases k with
  | «local»=>exact kd
  | cell=>exact kd
  | free =>
   show _\/_;rw[kd];split
   ·exact .inl rfl
   ·exact .inr rfl
  | globalExplicit=>exact True.intro
  | globalImplicit=>exact kd
 ·have e:sc.names.lookup x=some .cell:=e;show(sc.names.lookup x==some .cell)=true;rw[e];rfl
theorem Bv(g:Good kk X cc G){sc:Scope}(h:sD cc sc=true):Ao X sc (eE sc) (mG cc sc):=by
 obtain⟨h1,h2,h3,h4,h5⟩:=lE h;refine⟨by simp[mG],λi j x e1 e2=>?_⟩;unfold mG at e1;rw[ji,e2]at e1;simp only[C_,qW]at e1;split at e1
 ·rename_i hf
  have hf:sc.names.lookup x=some .free:=by simpa using hf
  obtain⟨_,ho⟩:=h5 (x,.free) (jY hf) rfl;refine⟨?_,hf,?_⟩
  ·rw[g.N];obtain⟨hj,hx,_⟩:=List.findIdx?_eq_some_iff_getElem.mp e1;rw[eK hj];have:cc.N[j]=x:=by simpa using hx
   rw[this]
  ·rcases ho with ho | ho
   ·exact .inl (g.kinds x _ ho)
   ·exact g.kinds x _ ho
 ·cases e1
theorem Bw{K:PySem.W.Frag}{ads:List Addr}{M:ag}{ρ:En}{σ:L2.St}{H:Hp}(s:SR K ads M ρ σ H)(cz:List (Option Nat)):SR K ads M (eI cz ρ) (jv cz σ) H:=by
 refine⟨s.mem,λi d e=>?_,by simp[eI,jv]⟩;unfold eI at e;unfold jv;rw[ji]at e⊢
 cases q:cz[i]? with
 | none=>rw[q]at e;cases e
 | some o =>
  rw[q]at e
  cases o with
  | none=>cases e
  | some j =>
   have e:(ρ[j]?).join=some d:=cu e
   have e2:ρ[j]?=some (some d):=by
    cases r:ρ[j]? with
    | none=>rw[r]at e;cases e
    | some z=>rw[r]at e;cases z with
     | none=>cases e
     | some y=>cases e;rfl
   obtain⟨v,ev,rv⟩:=s.en j d e2;exact⟨v,by simp[ev],rv⟩
theorem ay.wA{ads ax:List Addr}{H H':Hp}{D:Addr}{o:HO}(g:ay ads ax H H')(h:H D=none):ay ads ax H (a_ H' D o) :=
 ⟨g.pre,g.new,λb x n e=>by rw[ai (λz=>by subst z;rw[h]at e;cases e)];exact g.kept b x n e,λb x e=>by rw[ai (λz=>by subst z;rw[h]at e;cases e)];exact g.fQ b x e,
  λb x u e=>by rw[ai (λz=>by subst z;rw[h]at e;cases e)];exact g.gA b x u e⟩
theorem sN{K:PySem.W.Frag}{G:a9}{it:Ev.It}{J:L2.It}{tg:List Nat}{cond:Option eh}{elt:C}{cz:List (Option Nat)}{ads:List Addr}{M:ag}{ρ:En}{σ:L2.St}{H:Hp}{Q:VK}{f:Nat}(s:SR K ads M ρ σ H)(hJ:GC K ads H it J)(q:bQ K ads H Q (bg (λτ M=>bP G cond τ M) (λτ M=>(ev G elt τ M).bind own) it tg f 0 (eI cz ρ) M [])):uk cz (tG K tg) (cond.map λt=>@mC never K (dP G t)) (@tE never K (ev G elt)) σ J H Q:=by
  intro D hD;have Xi:=s.mem.fresh hD
  refine⟨λi m τ H' ys=>∃ax M' mL aI,SR K ax M' mL τ H'/\ay ads ax H H'/\D∉ax/\H' D=some (.lst ys)/\aT K ax H' aI ys/\bQ K ads H Q (bg (λτ M=>bP G cond τ M) (λτ M=>(ev G elt τ M).bind own) it tg m i mL M' aI),
    ⟨f,ads,M,eI cz ρ,[],?_,(ay.refl _ _).wA hD,Xi,aB,(by unfold aT;rfl),q⟩,?_⟩
  · have g0:ay ads ads H (a_ H D (.lst [])):=ay.dM s.mem hD;exact(Bw s cz).grow g0 (s.mem.dM hD)
  rintro i m τ H' ys ⟨ax,M',mL,aI,s',g',dn,hl,ra,q'⟩;refine⟨hl,?_⟩;obtain⟨r1,r2⟩:=hJ i ax H' M' g' s'.mem
  have stop:itemAt M' i it=some none->bQ K ads H Q (.ok (.lv aI) M')->(J.stop i H'/\Q (.ref D) H'):=λhi q' =>
    ⟨r1 hi,q' (.ref D) H' ax g' s'.mem ⟨D,ys,rfl,hD,hl,dn,ra⟩⟩
  cases m with
  | zero =>
    unfold bg at q';split at q'
    · rename_i hi
      exact .inl (stop hi q')
    · exact q'.elim
  | succ m =>
    unfold bg at q';split at q'
    · rename_i hi
      exact .inl (stop hi q')
    · rename_i d hi
      obtain⟨go,yl⟩:=r2 d hi
      cases hb:bI tg d mL with
      | none=>rw[hb]at q';exact q'.elim
      | some tR =>
        rw[hb]at q';dsimp only at q';split at q'
        · rename_i hz
          refine .inr ⟨go,by rw[<- ra.len];exact hz,λx H2 y=>?_⟩;obtain⟨g2,m2,rd⟩:=yl x H2 y;have R0:H2 D=some (.lst ys):=g2.kept D _ dn hl;refine⟨ax,M',mL,d,s'.grow g2 m2,rd,tR,hb,λCN s2=>?_⟩
          have gP : ∀ b M3 H3 cQ, ay ax cQ H2 H3 -> aD K cQ H3 M3 -> bQ K ads H Q (if b = true then ((ev G elt tR M3).bind own).b0 fun x M => bg (fun τ M => bP G cond τ M) (fun τ M => (ev G elt τ M).bind own) it tg m (i + 1) tR M (aI ++ [x]) else bg (fun τ M => bP G cond τ M) (fun τ M => (ev G elt τ M).bind own) it tg m (i + 1) tR M3 aI) ->
              (if b=true then @tE never K (ev G elt) CN H3 λv H4=>H4 D=some (.lst ys)/\∃m',m'<m+1/\∃ax M' mL aI,SR K ax M' mL CN (a_ H4 D (.lst (ys++[v])))/\ay ads ax H (a_ H4 D (.lst (ys++[v])))/\D∉ax/\(a_ H4 D (.lst (ys++[v]))) D=some (.lst (ys++[v]))/\aT K ax (a_ H4 D (.lst (ys++[v]))) aI (ys++[v])/\bQ K ads H Q (bg (λτ M=>bP G cond τ M) (λτ M=>(ev G elt τ M).bind own) it tg m' (i+1) mL M' aI)
               else ∃m',m'<m+1/\∃ax M' mL aI,SR K ax M' mL CN H3/\ay ads ax H H3/\D∉ax/\H3 D=some (.lst ys)/\aT K ax H3 aI ys/\bQ K ads H Q (bg (λτ M=>bP G cond τ M) (λτ M=>(ev G elt τ M).bind own) it tg m' (i+1) mL M' aI)):=by
            intro b M3 H3 cQ g3 m3 q3;have S9:D∉cQ:=g3.gB dn R0;have S_:H3 D=some (.lst ys):=g3.kept D _ dn R0;have s3:=s2.grow g3 m3;have gg:=(g'.trans g2).trans g3;have Vm:=(g2.trans g3).nD _ _ ra
            cases b with
            | false =>
              rw[aX (by simp)]at q3⊢;exact⟨m,xH _,cQ,M3,tR,aI,s3,gg,S9,S_,Vm,q3⟩
            | true =>
              rw[aU rfl]at q3⊢;refine⟨cQ,M3,tR,s3,?_⟩
              cases he:ev G elt tR M3 with
              | ok w M4 =>
                rw[he]at q3;intro v H4 yO g4 m4 r4;have q3:bQ K ads H Q ((own w M4).b0 λx M=>bg (λτ M=>bP G cond τ M) (λτ M=>(ev G elt τ M).bind own) it tg m (i+1) tR M (aI++[x])):=q3;have oG:H4 D=some (.lst ys):=g4.kept D _ S9 S_;refine⟨oG,m,xH _,?_⟩
                cases ho:own w M4 with
                | ok dd M5 =>
                  rw[ho]at q3;obtain⟨ET,g5,m5,Xj⟩:=kA s3.mem g4 m4 r4 ho;have Vn:D∉ET:=g5.gB S9 S_;have tk:TF H4 (a_ H4 D (.lst (ys++[v]))):=⟨λb xs e=>by rw[ai (λz=>by subst z;rw[oG]at e;cases e)];exact e,λb o u e=>by rw[ai (λz=>by subst z;rw[oG]at e;cases e)];exact e,λb gs e=>by rw[ai (λz=>by subst z;rw[oG]at e;cases e)];exact e⟩;have m6:aD K ET (a_ H4 D (.lst (ys++[v]))) M5:=m5.keep tk λa ha=>ai (λz=>by subst z;exact Vn ha)
                  have Xk:NP K ET (a_ H4 D (.lst (ys++[v]))) tR CN:=λj d e=>by
                    obtain⟨u,e1,r⟩:=g5.Vb s3.en j d e;exact⟨u,e1,RD.keep tk _ _ r⟩
                  exact⟨ET,M5,tR,aI++[dd],⟨m6,Xk,s3.ln⟩,(gg.trans g5).wA hD,Vn,aB,aT.keep tk _ _ ((g5.nD _ _ Vm).app (.one Xj)),q3⟩
                | err _ _=>cases w<;>cases ho
                | ae=>cases w<;>cases ho
              | err _ _=>rw[he]at q3;exact q3
              | ae=>rw[he]at q3;exact q3
          cases cond with
          | none =>
            exact gP true M' H2 ax (ay.refl _ _) m2 q'
          | some t =>
            show @mC never K (dP G t) CN H2 _;refine⟨ax,M',tR,s2,?_⟩;have q':bQ K ads H Q ((dP G t tR M').b0 λb M=>if b=true then ((ev G elt tR M).bind own).b0 λx M=>bg (λτ M=>bP G (some t) τ M) (λτ M=>(ev G elt τ M).bind own) it tg m (i+1) tR M (aI++[x]) else bg (λτ M=>bP G (some t) τ M) (λτ M=>(ev G elt τ M).bind own) it tg m (i+1) tR M aI):=q'
            cases ht:dP G t tR M' with
            | ok b M3 =>
              rw[ht]at q';intro H3 cQ g3 m3;exact gP b M3 H3 cQ g3 m3 q'
            | err _ _=>rw[ht]at q';exact q'
            | ae=>rw[ht]at q';exact q'
        · exact q'.elim
    · exact q'.elim
end
end
section
variable [EX]
variable {kk:Nat} {G:a9}
theorem qt{e:Expr}(h:fL e=true)(env:Env):∀x,foldedSetIterable e env x=pure x:=by
 intro x;cases e<;>first | rfl | exact absurd (show false=true from h) au
theorem JC{X:Cx}{cc:CC}{k:SK}{cU:List C}{tg:List Nat}{cond:Option eh}{elt:C}{cz:List (Option Nat)}{el t aH:Expr}{ifs:List Expr}{sc:Scope}{pos:Pos}(g:Good kk X cc G)(Bx:sD cc sc=true)(Ak:cz=mG cc sc)(md:fL aH=true)(By:PI X t aH (tI X.K (dh G k cU)))(Ta:gZ (oF cc sc) tg t=true)(jJ:EI (oF cc sc) cond ifs=true)(Qo:∀t,cond=some t->∀X':Cx,X'.K=X.K->@Good never kk X' (oF cc sc) G->∀e,jD (oF cc sc) t e=true->PT X' e (@mC never X'.K (dP G t)))(Xl:∀X':Cx,X'.K=X.K->@Good never kk X' (oF cc sc) G->PE X' el (@tE never X'.K (ev G elt))):∃(wi:TI) (cl:(X:Cx)->Prop),True/\PE X (.ListComp el [⟨t,aH,ifs,0⟩] sc pos) (tE X.K (ev G (.comp k cU tg cond elt cz))):=by
 refine⟨λ_ _ _=>True,λ_=>True,True.intro,?_⟩;intro aa s σ H Q I q;obtain⟨h1,h2,h3,h4,h5⟩:=lE Bx
 obtain⟨cl,EU⟩:=wz (X:=X) (sc:=sc) λy hy hf=>by
  obtain⟨_,ho⟩:=h5 y hy hf;refine I.ok.has y.1 ?_;rcases ho with ho | ho
  ·exact .inl (g.kinds _ _ ho)
  ·exact g.kinds _ _ ho
 have ck:kc X sc (eE sc) cz cl t el ifs (tG X.K tg) (cond.map λt=>@mC never X.K (dP G t)) (@tE never X.K (ev G elt)):=by
  refine⟨h1,h2,h3,EU,Ak▸Bv g Bx,λC s H fp=>(by have gb:=g.block (cl:=cl) Bx C s H fp;letI:=never;exact jI gb Ta),?_,λC s H fp=>Xl _ rfl (g.block Bx C s H fp)⟩
  cases cond with
  | none =>
   cases ifs with
   | nil=>rfl
   | cons _ _=>cases jJ
  | some tt =>
   cases ifs with
   | nil=>cases jJ
   | cons e es =>
    cases es with
    | cons _ _=>cases jJ
    | nil=>exact⟨e,rfl,λC s H fp=>Qo tt rfl (X.block sc cl C (eE sc) s H fp []) rfl (g.block Bx C s H fp) e jJ⟩
 refine D1 g.calm By ck (qt md X.env) aa s σ H Q I ?_;obtain⟨ads,M,ρ,sr,q⟩:=q;refine⟨ads,M,ρ,sr,?_⟩
 have q:bQ X.K ads H Q ((dh G k cU ρ M).bind λit M=>bg (λτ M=>bP G cond τ M) (λτ M=>(ev G elt τ M).bind own) it tg (dv M it) 0 (eI cz ρ) M []):=by
  simp only[pW]at q;unfold dh
  cases hw:cV G cU ρ M with
  | ok ws M1=>rw[hw]at q;exact q
  | err _ _=>rw[hw]at q;exact q
  | ae=>rw[hw]at q;exact q
 cases hs:dh G k cU ρ M with
 | ok it M1 =>
  rw[hs]at q;intro J H1 ah g1 m1 rj;exact sN (sr.grow g1 m1) rj (bQ.shift (o:=bg (λτ M=>bP G cond τ M) (λτ M=>(ev G elt τ M).bind own) it tg (dv M1 it) 0 (eI cz ρ) M1 []) q g1 sr.mem m1)
 | err _ _=>rw[hs]at q;exact q
 | ae=>rw[hs]at q;exact q
end
theorem cX[EX]{X:Cx}{cc:CC}{G:a9}{c:C}{e:Expr}(h:(ir e&&bw cc c e)=true)(k:bw cc c e=true->PE X e (tE X.K (ev G c))):PT X e (mC X.K (dP G (.val c))):=EK ((av _ _).mp h).1 (k ((av _ _).mp h).2)
mutual
theorem aY{kk:Nat}{G:a9}:∀(c:C)(ex:EX)(cc:CC)(X:Cx)(e:Expr),@Good ex kk X cc G->bw cc c e=true->PE X e (@tE ex X.K (ev G c))
 | .eO i,ex,cc,X,e,g,h=>Gn g.cC h
 | .aN d,ex,cc,X,e,g,h=>Go h
 | .bin op a b,ex,cc,X,e,g,h=>Gp (λe h=>aY a ex cc X e g h) (λe h=>aY b ex cc X e g h) h
 | .cmp op a b,ex,cc,X,e,g,h=>(wc g.cC (λe h=>aY a ex cc X e g h) (λe h=>aY b ex cc X e g h) h).1
 | .chain o1 o2 a b c,ex,cc,X,e,g,h=>(we g.cC (λe h=>aY a ex cc X e g h) (λe h=>aY b ex cc X e g h) (λe h=>aY c ex cc X e g h) h).1
 | .cw cs,ex,cc,X,e,g,h=>by
  refine df (P:=λe=>PE X e _) h λop es pos h=>?_;simp only[av,gh,tV]at h
  cases op with
  | Or=>exact absurd h.1.1 au
  | And=>exact fj (Gw (op:=.And) cs es pos (qu cs ex cc X g) h.1.2 h.2) λσ H Q q=>q
 | .bU cs,ex,cc,X,e,g,h=>by
  refine df (P:=λe=>PE X e _) h λop es pos h=>?_;simp only[av,gh,tV]at h
  cases op with
  | And=>exact absurd h.1.1.symm au
  | Or=>exact fj (N_ cs es pos (qu cs ex cc X g) h.1.2 h.2) λσ H Q q=>q
 | .neg a,ex,cc,X,e,g,h=>Gq (λe h=>aY a ex cc X e g h) h
 | .tup cs,ex,cc,X,e,g,h=>Gr (λes h=>kW cs ex cc X es g h) h
 | .lst cs,ex,cc,X,e,g,h=>Gs (λes h=>kW cs ex cc X es g h) h
 | .sub a b,ex,cc,X,e,g,h=>cG (P:=λe=>PE X e _) h λe i pos h=>by
  simp only[av]at h;exact Gy g.cC h.1.1 (aY a ex cc X e g h.1.2) (aY b ex cc X i g h.2)
 | .gH a lo hi,ex,cc,X,e,g,h=>cG (P:=λe=>PE X e _) h λe i pos h=>uD (P:=λi=>PE X (.Subscript e i pos) _) h λl u st p h=>by
  simp only[av]at h
  cases st with
  | some _=>exact absurd h.1.1.1 au
  | none=>exact Ob (aY a ex cc X e g h.1.1.2) (Oi lo ex cc X l g h.1.2) (Oi hi ex cc X u g h.2)
 | .fV a b,ex,cc,X,e,g,h=>bR (P:=λe=>PE X e _) h λfe args d7 pos h=>dz (P:=λfe=>PE X (.Call fe args d7 pos) _) h λe n ap h=>by
  rcases args with _|⟨x,_|⟨x2,xs⟩⟩<;>first | exact absurd h au | skip
  cases d7<;>first | exact absurd h au | skip
  simp only[av]at h;obtain⟨⟨⟨⟨⟨h1,h2⟩,h3⟩,h4⟩,h5⟩,h6⟩:=h;exact EM (eq_of_beq h1) h2 h3 h4 h6 (aY a ex cc X e g h5) (aY b ex cc X x g h6)
 | .call f cs,ex,cc,X,e,g,h=>bR (P:=λe=>PE X e _) h λfe args d7 pos h=>aF (P:=λfe=>PE X (.Call fe args d7 pos) _) h λx p h=>by
  rcases args with _|⟨e,es⟩<;>first | exact absurd h au | skip
  cases d7<;>first | exact absurd h au | skip
  simp only[av,eB]at h;exact Jy g h.1.1.1 h.1.1.2 h.1.2 h.2 (kW cs ex cc X (e::es) g h.2)
 | .xf a f,ex,cc,X,e,g,h=>dz (P:=λe=>PE X e _) h λe n pos h=>by
  simp only[av,eB]at h;obtain⟨⟨rfl,h1⟩,h2⟩:=h;exact aF (P:=λe=>bw cc a e=true->PE X (.Attribute e n pos) _) h1 (λx p _ h2=>Og (aY a ex cc X _ g h2)) h2
 | .ow a k tb,ex,cc,X,e,g,h=>bR (P:=λe=>PE X e _) h λfe args d7 pos h=>aF (P:=λfe=>PE X (.Call fe args d7 pos) _) h λx p h=>by
  rcases args with _|⟨u,_|⟨v,_|⟨_,_⟩⟩⟩<;>first | exact absurd h au | skip
  cases d7<;>first | exact absurd h au | skip
  simp only[av]at h;obtain⟨⟨⟨⟨⟨h1,h2⟩,h3⟩,h4⟩,h5⟩,h6⟩:=h;exact GA g.cC (eq_of_beq h1) h2 h3 (aY a ex cc X u g h4) h5 h6
 | .fX f cs,ex,cc,X,e,g,h=>bR (P:=λe=>PE X e _) h λfe args d7 pos h=>aF (P:=λfe=>PE X (.Call fe args d7 pos) _) h λx p h=>by
  rcases args with _|⟨e,es⟩<;>first | exact absurd h au | skip
  cases d7<;>first | exact absurd h au | skip
  simp only[av,eB]at h;exact wk g.cC h.1.1.1.1 (List.contains_iff_mem.mp h.1.1.1.2) h.1.1.2 h.1.2 h.2 (kW cs ex cc X (e::es) g h.2)
 | .bi b cs,ex,cc,X,e,g,h=>bR (P:=λe=>PE X e _) h λfe args d7 pos h0=>aF (P:=λfe=>PE X (.Call fe args d7 pos) _) h0 λx p h=>by
  clear h0
  replace h:=(av _ _).mp h
  have h1:=h.1
  replace h:=h.2
  simp only[av,qY]at h1;obtain⟨⟨rfl,hx⟩,hg⟩:=h1
  cases hb:Bd b with
  | none =>
   rw[hb]at h;rcases args with _|⟨e,es⟩<;>first | exact absurd h au | skip
   replace h:=(av _ _).mp h
   have fO:aE e=true/\bu cc cs.tail es=true:=by
    cases cs with
    | nil=>exact absurd h.2 au
    | cons c cs =>
     have h':(aE e&&bw cc c e&&bu cc cs es)=true:=h.2;simp only[av]at h';exact⟨h'.1.1,h'.2⟩
   exact S5 g h.1 (eq_of_beq hx) hg fO.1 fO.2 (GF cs ex cc X (e::es) g h.2)
  | some t =>
   rw[hb]at h;obtain rfl:=uH hb;rcases args with _|⟨e,_|⟨f,_|⟨f2,fs⟩⟩⟩<;>first | exact absurd h au | skip
   replace h:=(av _ _).mp h
   refine aF (P:=λf=>PE X (.Call (.Name x p) [e,f] [] pos) _) h.1 λy py hy=>?_;simp only[av,oW]at hy;rcases cs with _|⟨c,_|⟨c2,cs⟩⟩
   ·exact absurd h.2 au
   ·have h7:(aE e&&bw cc c e&&true)=true:=h.2;simp only[av]at h7;exact Od g.cC (eq_of_beq hx) hg (eq_of_beq hy.1.1) hy.1.2 hy.2 h7.1.1 (aY c ex cc X e g h7.1.2)
   ·have h7:(aE e&&bw cc c e&&bu cc (c2::cs) [])=true:=h.2;simp only[av]at h7;exact absurd h7.2 au
 | .me m o cs,ex,cc,X,e,g,h=>bR (P:=λe=>PE X e _) h λfe args d7 pos h=>dz (P:=λfe=>PE X (.Call fe args d7 pos) _) h λe n ap h=>by
  simp only[av,qY]at h;obtain⟨⟨⟨⟨⟨⟨⟨rfl,h1⟩,h2⟩,h3⟩,h4⟩,h5⟩,h6⟩,h7⟩:=h;exact S8 (eq_of_beq h1) h2 h3 h4 h6 (zr h7) (aY o ex cc X e g h5) (kW cs ex cc X args g h6)
 | .vU ks cs,ex,cc,X,e,g,h=>oC (P:=λe=>PE X e _) h λkeys vs pos h=>by
  simp only[Dg,av,gh,tV,oW,qY]at h;rcases h with⟨⟨⟨⟨⟨h1,h2⟩,h3⟩,h4⟩,h5⟩,h6⟩|⟨⟨⟨rfl,rfl⟩,rfl⟩,rfl⟩
  ·exact Oh h1 h2 h3 h4 h5 h6 (qu cs ex cc X g)
  ·exact Jz
 | .jV tp cs,_,_,_,_,_,h=>absurd (show false=true from h) au
 | .qT x v,ex,cc,X,e,g,h=>aF (P:=λe=>PE X e _) h λy pos h=>by
  simp only[av,eB]at h;obtain⟨⟨⟨rfl,h1⟩,h2⟩,h3⟩:=h;exact Of g.cC h1 h2 h3
 | .lx,ex,cc,X,e,g,h=>oC (P:=λe=>PE X e _) h λkeys vs pos h=>by
  simp only[av,qY]at h;obtain⟨rfl,rfl⟩:=h;exact JA
 | .fW ng a b,ex,cc,X,e,g,h=>(Gv g.cC (λe h=>aY a ex cc X e g h) (λe h=>aY b ex cc X e g h) h).1
 | .fc ng a,ex,cc,X,e,g,h=>(qq (λe h=>aY a ex cc X e g h) h).1
 | .comp k cU tg cond elt cz,ex,cc,X,e,g,h=>iO (P:=λe=>PE X e _) h λel gens sc pos h=>by
  rcases gens with _|⟨⟨t,aH,ifs,as⟩,_|⟨_,_⟩⟩<;>first | exact absurd h au | skip
  simp only[av,eB,oW]at h;obtain⟨⟨⟨⟨⟨⟨rfl,h1⟩,h2⟩,h3⟩,h4⟩,h5⟩,h6⟩:=h;obtain⟨By,md⟩:=uK cU k ex cc X t aH g h3;obtain⟨_,_,_,r⟩:=JC (pos:=pos) g h1 h2 md By h4 h5 (λt ht X' _ g' e he=>EV cond never (oF cc sc) X' g' t ht e he) (λX' _ g'=>aY elt never (oF cc sc) X' el g' h6);exact r
theorem Bz{kk:Nat}{G:a9}:∀(t:eh)(ex:EX)(cc:CC)(X:Cx)(e:Expr),@Good ex kk X cc G->jD cc t e=true->PT X e (@mC ex X.K (dP G t))
 | .val (.cmp op a b),ex,cc,X,e,g,h=>kB Bj (wc g.cC (λe h=>aY a ex cc X e g h) (λe h=>aY b ex cc X e g h) h).2
 | .val (.chain o1 o2 a b c),ex,cc,X,e,g,h=>kB Bk (we g.cC (λe h=>aY a ex cc X e g h) (λe h=>aY b ex cc X e g h) (λe h=>aY c ex cc X e g h) h).2
 | .val (.eO i),ex,cc,X,e,g,h=>cX h (aY (.eO i) ex cc X e g)
 | .val (.aN d),ex,cc,X,e,g,h=>cX h (aY (.aN d) ex cc X e g)
 | .val (.bin op a b),ex,cc,X,e,g,h=>cX h (aY (.bin op a b) ex cc X e g)
 | .val (.cw cs),ex,cc,X,e,g,h=>cX h (aY (.cw cs) ex cc X e g)
 | .val (.bU cs),ex,cc,X,e,g,h=>cX h (aY (.bU cs) ex cc X e g)
 | .val (.neg a),ex,cc,X,e,g,h=>cX h (aY (.neg a) ex cc X e g)
 | .val (.tup cs),ex,cc,X,e,g,h=>cX h (aY (.tup cs) ex cc X e g)
 | .val (.lst cs),ex,cc,X,e,g,h=>cX h (aY (.lst cs) ex cc X e g)
 | .val (.sub a b),ex,cc,X,e,g,h=>cX h (aY (.sub a b) ex cc X e g)
 | .val (.gH a lo hi),ex,cc,X,e,g,h=>cX h (aY (.gH a lo hi) ex cc X e g)
 | .val (.fV a b),ex,cc,X,e,g,h=>cX h (aY (.fV a b) ex cc X e g)
 | .val (.call f cs),ex,cc,X,e,g,h=>cX h (aY (.call f cs) ex cc X e g)
 | .val (.bi b cs),ex,cc,X,e,g,h=>cX h (aY (.bi b cs) ex cc X e g)
 | .val (.me m o cs),ex,cc,X,e,g,h=>cX h (aY (.me m o cs) ex cc X e g)
 | .val (.vU ks cs),ex,cc,X,e,g,h=>cX h (aY (.vU ks cs) ex cc X e g)
 | .val (.jV tp cs),ex,cc,X,e,g,h=>cX h (aY (.jV tp cs) ex cc X e g)
 | .val (.fc ng a),ex,cc,X,e,g,h=>kB wg (qq (λe h=>aY a ex cc X e g h) h).2
 | .val (.fW ng a b),ex,cc,X,e,g,h=>kB Jv (Gv g.cC (λe h=>aY a ex cc X e g h) (λe h=>aY b ex cc X e g h) h).2
 | .val (.lx),ex,cc,X,e,g,h=>cX h (aY (.lx) ex cc X e g)
 | .val (.qT x v),ex,cc,X,e,g,h=>cX h (aY (.qT x v) ex cc X e g)
 | .val (.xf a f),ex,cc,X,e,g,h=>cX h (aY (.xf a f) ex cc X e g)
 | .val (.ow a k tb),ex,cc,X,e,g,h=>cX h (aY (.ow a k tb) ex cc X e g)
 | .val (.fX f cs),ex,cc,X,e,g,h=>cX h (aY (.fX f cs) ex cc X e g)
 | .val (.comp k cU tg cond elt cz),ex,cc,X,e,g,h=>cX h (aY (.comp k cU tg cond elt cz) ex cc X e g)
 | .cw ts,ex,cc,X,e,g,h=>by
  refine df (P:=λe=>PT X e _) h λop es pos h=>?_;simp only[av,gh,tV]at h
  cases op with
  | Or=>exact absurd h.1.1 au
  | And=>exact ze (Bl ts es pos (BA ts ex cc X g) h.1.2 h.2).pt λσ H Q q=>q
 | .bU ts,ex,cc,X,e,g,h=>by
  refine df (P:=λe=>PT X e _) h λop es pos h=>?_;simp only[av,gh,tV]at h
  cases op with
  | And=>exact absurd h.1.1.symm au
  | Or=>exact ze (Bm ts es pos (BA ts ex cc X g) h.1.2 h.2).pt λσ H Q q=>q
 | .neg t,ex,cc,X,e,g,h=>by
  refine eP (P:=λe=>PT X e _) h λop x pos h=>?_
  replace h:=(av _ _).mp h
  cases op<;>first | exact absurd h.1 au | skip
  exact Gx (Bz t ex cc X x g h.2)
theorem kW{kk:Nat}{G:a9}:∀(cs:List C)(ex:EX)(cc:CC)(X:Cx)(es:List Expr),@Good ex kk X cc G->bu cc cs es=true->PA X es (@zd ex X.K (a8 G cs))
 | [],ex,cc,X,[],g,h=>Gu
 | [],ex,cc,X,_::_,g,h=>by cases h
 | _::_,ex,cc,X,[],g,h=>by cases h
 | c::cs,ex,cc,X,e::es,g,h=>by
  have h':(aE e&&bw cc c e&&bu cc cs es)=true:=h;simp only[av]at h';exact Bf h'.1.1 (aY c ex cc X e g h'.1.2) (kW cs ex cc X es g h'.2)
theorem GF{kk:Nat}{G:a9}:∀(cs:List C)(ex:EX)(cc:CC)(X:Cx)(es:List Expr),@Good ex kk X cc G->bu cc cs es=true->PA X es (@Lr ex X.K (cV G cs))
 | [],ex,cc,X,[],g,h=>Gz
 | [],ex,cc,X,_::_,g,h=>by cases h
 | _::_,ex,cc,X,[],g,h=>by cases h
 | c::cs,ex,cc,X,e::es,g,h=>by
  have h':(aE e&&bw cc c e&&bu cc cs es)=true:=h;simp only[av]at h';exact Bn h'.1.1 (aY c ex cc X e g h'.1.2) (GF cs ex cc X es g h'.2)
theorem qu{kk:Nat}{G:a9}:∀(cs:List C)(ex:EX)(cc:CC)(X:Cx),@Good ex kk X cc G->∀c∈cs,∀e,bw cc c e=true->PE X e (@tE ex X.K (ev G c))
 | [],ex,cc,X,g,c,hc,e,h=>by cases hc
 | c::cs,ex,cc,X,g,c',hc,e,h=>by
  rcases cq.mp hc with z | z
  ·rw[z]at h⊢;exact aY c ex cc X e g h
  ·exact qu cs ex cc X g c' z e h
theorem BA{kk:Nat}{G:a9}:∀(ts:List eh)(ex:EX)(cc:CC)(X:Cx),@Good ex kk X cc G->∀t∈ts,∀e,jD cc t e=true->PT X e (@mC ex X.K (dP G t))
 | [],ex,cc,X,g,c,hc,e,h=>by cases hc
 | c::cs,ex,cc,X,g,c',hc,e,h=>by
  rcases cq.mp hc with z | z
  ·rw[z]at h⊢;exact Bz c ex cc X e g h
  ·exact BA cs ex cc X g c' z e h
theorem Oi{kk:Nat}{G:a9}:∀(o:Option C)(ex:EX)(cc:CC)(X:Cx)(e:Option Expr),@Good ex kk X cc G->Js cc o e=true->PO X e (@tO ex X.K (qU G o))
 | none,ex,cc,X,none,g,h=>Jw
 | none,ex,cc,X,some _,g,h=>by cases h
 | some _,ex,cc,X,none,g,h=>by cases h
 | some c,ex,cc,X,some e,g,h=>Jx (aY c ex cc X e g h)
theorem EV{kk:Nat}{G:a9}:∀(o:Option eh)(ex:EX)(cc:CC)(X:Cx),@Good ex kk X cc G->∀t,o=some t->∀e,jD cc t e=true->PT X e (@mC ex X.K (dP G t))
 | none,ex,cc,X,g,t,ht,e,h=>by cases ht
 | some c,ex,cc,X,g,t,ht,e,h=>by cases ht;exact Bz c ex cc X e g h
theorem uK{kk:Nat}{G:a9}:∀(cU:List C)(k:SK)(ex:EX)(cc:CC)(X:Cx)(t aH:Expr),@Good ex kk X cc G->qp cc k cU t aH=true->PI X t aH (@tI ex X.K (dh G k cU))/\fL aH=true
 | [],k,ex,cc,X,t,aH,g,h=>by cases k<;>cases h
 | [c],.seq,ex,cc,X,t,aH,g,h=>by
  have h':(fL aH&&bw cc c aH)=true:=h;simp only[av]at h';exact⟨ES (aY c ex cc X aH g h'.2),h'.1⟩
 | [c],.vals,ex,cc,X,t,aH,g,h=>by cases h
 | [c],.keys,ex,cc,X,t,aH,g,h=>by cases h
 | [c],.fb,ex,cc,X,t,aH,g,h=>by
  refine bR (P:=λaH=>PI X t aH _/\fL aH=true) h λfe args d7 pos h=>aF (P:=λfe=>PI X t (.Call fe args d7 pos) _/\fL (.Call fe args d7 pos)=true) h λx p h=>?_;rcases args with _|⟨a,_|⟨a2,as⟩⟩<;>first | exact absurd h au | skip
  cases d7<;>first | exact absurd h au | skip
  simp only[av]at h;exact⟨Bt g (eq_of_beq h.1.1.1) h.1.1.2 h.1.2 (aY c ex cc X a g h.2),rfl⟩
 | [c],.enum,ex,cc,X,t,aH,g,h=>by
  refine bR (P:=λaH=>PI X t aH _/\fL aH=true) h λfe args d7 pos h=>aF (P:=λfe=>PI X t (.Call fe args d7 pos) _/\fL (.Call fe args d7 pos)=true) h λx p h=>?_;rcases args with _|⟨a,_|⟨a2,as⟩⟩<;>first | exact absurd h au | skip
  cases d7<;>first | exact absurd h au | skip
  simp only[av]at h;exact⟨Bu g (eq_of_beq h.1.1.1.1) h.1.1.1.2 h.1.1.2 h.1.2 (aY c ex cc X a g h.2),rfl⟩
 | [c],.AF,ex,cc,X,t,aH,g,h=>by cases h
 | [c],.zip,ex,cc,X,t,aH,g,h=>by cases h
 | [c],.Eg,ex,cc,X,t,aH,g,h=>by cases h
 | [c,d],.AF,ex,cc,X,t,aH,g,h=>by cases h
 | [c,d],.seq,ex,cc,X,t,aH,g,h=>by cases h
 | [c,d],.Eg,ex,cc,X,t,aH,g,h=>by cases h
 | [c,d],.keys,ex,cc,X,t,aH,g,h=>by cases h
 | [c,d],.vals,ex,cc,X,t,aH,g,h=>by cases h
 | [c,d],.fb,ex,cc,X,t,aH,g,h=>by cases h
 | [c,d],.enum,ex,cc,X,t,aH,g,h=>by cases h
 | [c,d],.zip,ex,cc,X,t,aH,g,h=>by cases h
 | [c,d,m],.Eg,ex,cc,X,t,aH,g,h=>by cases h
 | [c,d,m],.seq,ex,cc,X,t,aH,g,h=>by cases h
 | [c,d,m],.keys,ex,cc,X,t,aH,g,h=>by cases h
 | [c,d,m],.vals,ex,cc,X,t,aH,g,h=>by cases h
 | [c,d,m],.fb,ex,cc,X,t,aH,g,h=>by cases h
 | [c,d,m],.AF,ex,cc,X,t,aH,g,h=>by cases h
 | [c,d,m],.enum,ex,cc,X,t,aH,g,h=>by cases h
 | [c,d,m],.zip,ex,cc,X,t,aH,g,h=>by cases h
 | _::_::_::_::_,k,ex,cc,X,t,aH,g,h=>by cases k<;>cases h
end
mutual
noncomputable def g8:C->Bool
 | .eO _=>true
 | .aN _=>true
 | .bin _ a b=>g8 a&&g8 b
 | .cmp _ a b=>g8 a&&g8 b
 | .sub a b=>g8 a&&g8 b
 | .neg a=>g8 a
 | .fc _ a=>g8 a
 | .xf a _=>g8 a
 | .ow a _ _=>g8 a
 | .tup cs=>sO cs
 | .lst cs=>sO cs
 | .fX _ cs=>sO cs
 | _=>false
noncomputable def sO:List C->Bool
 | []=>true
 | c::cs=>g8 c&&sO cs
noncomputable def BB:eh->Bool
 | .val c=>g8 c
 | .neg t=>BB t
 | .cw ts=>wB ts
 | .bU ts=>wB ts
noncomputable def wB:List eh->Bool
 | []=>true
 | c::cs=>BB c&&wB cs
end
mutual
theorem kF{kk:Nat}{G:a9}:∀(c:C)(cc:CC)(X:Cx)(e:Expr),bW kk X cc G->g8 c=true->bw cc c e=true->PE X e (tE X.K (ev G c))
 | .eO i,cc,X,e,g,k,h=>Gn g h
 | .aN d,cc,X,e,g,k,h=>Go h
 | .bin op a b,cc,X,e,g,k,h=>Gp (λe h=>kF a cc X e g ((av _ _).mp k).1 h) (λe h=>kF b cc X e g ((av _ _).mp k).2 h) h
 | .cmp op a b,cc,X,e,g,k,h=>(wc g (λe h=>kF a cc X e g ((av _ _).mp k).1 h) (λe h=>kF b cc X e g ((av _ _).mp k).2 h) h).1
 | .sub a b,cc,X,e,g,k,h=>cG (P:=λe=>PE X e _) h λe i pos h=>by
  simp only[av]at h;exact Gy g h.1.1 (kF a cc X e g ((av _ _).mp k).1 h.1.2) (kF b cc X i g ((av _ _).mp k).2 h.2)
 | .neg a,cc,X,e,g,k,h=>Gq (λe h=>kF a cc X e g k h) h
 | .fc ng a,cc,X,e,g,k,h=>(qq (λe h=>kF a cc X e g k h) h).1
 | .xf a f,cc,X,e,g,k,h=>dz (P:=λe=>PE X e _) h λe n pos h=>by
  simp only[av,eB]at h;obtain⟨⟨rfl,h1⟩,h2⟩:=h;exact aF (P:=λe=>bw cc a e=true->PE X (.Attribute e n pos) _) h1 (λx p _ h2=>Og (kF a cc X _ g k h2)) h2
 | .ow a ix tb,cc,X,e,g,k,h=>bR (P:=λe=>PE X e _) h λfe args d7 pos h=>aF (P:=λfe=>PE X (.Call fe args d7 pos) _) h λx p h=>by
  rcases args with _|⟨u,_|⟨v,_|⟨_,_⟩⟩⟩<;>first | exact absurd h au | skip
  cases d7<;>first | exact absurd h au | skip
  simp only[av]at h;obtain⟨⟨⟨⟨⟨h1,h2⟩,h3⟩,h4⟩,h5⟩,h6⟩:=h;exact GA g (eq_of_beq h1) h2 h3 (kF a cc X u g k h4) h5 h6
 | .tup cs,cc,X,e,g,k,h=>Gr (λes h=>EW cs cc X es g k h) h
 | .lst cs,cc,X,e,g,k,h=>Gs (λes h=>EW cs cc X es g k h) h
 | .fX f cs,cc,X,e,g,k,h=>bR (P:=λe=>PE X e _) h λfe args d7 pos h=>aF (P:=λfe=>PE X (.Call fe args d7 pos) _) h λx p h=>by
  rcases args with _|⟨e,es⟩<;>first | exact absurd h au | skip
  cases d7<;>first | exact absurd h au | skip
  simp only[av,eB]at h;exact wk g h.1.1.1.1 (List.contains_iff_mem.mp h.1.1.1.2) h.1.1.2 h.1.2 h.2 (EW cs cc X (e::es) g k h.2)
 | .chain o1 o2 a b c,cc,X,e,g,k,h=>absurd k au
 | .cw cs,cc,X,e,g,k,h=>absurd k au
 | .bU cs,cc,X,e,g,k,h=>absurd k au
 | .gH a lo hi,cc,X,e,g,k,h=>absurd k au
 | .fV a b,cc,X,e,g,k,h=>absurd k au
 | .call f cs,cc,X,e,g,k,h=>absurd k au
 | .bi b cs,cc,X,e,g,k,h=>absurd k au
 | .me m o cs,cc,X,e,g,k,h=>absurd k au
 | .vU ks cs,cc,X,e,g,k,h=>absurd k au
 | .jV tp cs,cc,X,e,g,k,h=>absurd k au
 | .qT x v,cc,X,e,g,k,h=>absurd k au
 | .lx,cc,X,e,g,k,h=>absurd k au
 | .fW ng a b,cc,X,e,g,k,h=>absurd k au
 | .comp sk cU tg cond elt cz,cc,X,e,g,k,h=>absurd k au
theorem Tb{kk:Nat}{G:a9}:∀(t:eh)(cc:CC)(X:Cx)(e:Expr),bW kk X cc G->BB t=true->jD cc t e=true->PT X e (mC X.K (dP G t))
 | .val (.cmp op a b),cc,X,e,g,k,h=>kB Bj (wc g (λe h=>kF a cc X e g ((av _ _).mp k).1 h) (λe h=>kF b cc X e g ((av _ _).mp k).2 h) h).2
 | .val (.fc ng a),cc,X,e,g,k,h=>kB wg (qq (λe h=>kF a cc X e g k h) h).2
 | .val (.eO i),cc,X,e,g,k,h=>cX h (kF (.eO i) cc X e g k)
 | .val (.aN d),cc,X,e,g,k,h=>cX h (kF (.aN d) cc X e g k)
 | .val (.bin op a b),cc,X,e,g,k,h=>cX h (kF (.bin op a b) cc X e g k)
 | .val (.sub a b),cc,X,e,g,k,h=>cX h (kF (.sub a b) cc X e g k)
 | .val (.xf a f),cc,X,e,g,k,h=>cX h (kF (.xf a f) cc X e g k)
 | .val (.ow a ix tb),cc,X,e,g,k,h=>cX h (kF (.ow a ix tb) cc X e g k)
 | .val (.tup cs),cc,X,e,g,k,h=>cX h (kF (.tup cs) cc X e g k)
 | .val (.lst cs),cc,X,e,g,k,h=>cX h (kF (.lst cs) cc X e g k)
 | .val (.fX f cs),cc,X,e,g,k,h=>cX h (kF (.fX f cs) cc X e g k)
 | .val (.neg a),cc,X,e,g,k,h=>cX h (kF (.neg a) cc X e g k)
 | .val (.chain o1 o2 a b c),cc,X,e,g,k,h=>absurd k au
 | .val (.cw cs),cc,X,e,g,k,h=>absurd k au
 | .val (.bU cs),cc,X,e,g,k,h=>absurd k au
 | .val (.gH a lo hi),cc,X,e,g,k,h=>absurd k au
 | .val (.fV a b),cc,X,e,g,k,h=>absurd k au
 | .val (.call f cs),cc,X,e,g,k,h=>absurd k au
 | .val (.bi b cs),cc,X,e,g,k,h=>absurd k au
 | .val (.me m o cs),cc,X,e,g,k,h=>absurd k au
 | .val (.vU ks cs),cc,X,e,g,k,h=>absurd k au
 | .val (.jV tp cs),cc,X,e,g,k,h=>absurd k au
 | .val (.qT x v),cc,X,e,g,k,h=>absurd k au
 | .val (.lx),cc,X,e,g,k,h=>absurd k au
 | .val (.fW ng a b),cc,X,e,g,k,h=>absurd k au
 | .val (.comp sk cU tg cond elt cz),cc,X,e,g,k,h=>absurd k au
 | .cw ts,cc,X,e,g,k,h=>by
  refine df (P:=λe=>PT X e _) h λop es pos h=>?_;simp only[av,gh,tV]at h
  cases op with
  | Or=>exact absurd h.1.1 au
  | And=>exact ze (Bl ts es pos (JD ts cc X g k) h.1.2 h.2).pt λσ H Q q=>q
 | .bU ts,cc,X,e,g,k,h=>by
  refine df (P:=λe=>PT X e _) h λop es pos h=>?_;simp only[av,gh,tV]at h
  cases op with
  | And=>exact absurd h.1.1.symm au
  | Or=>exact ze (Bm ts es pos (JD ts cc X g k) h.1.2 h.2).pt λσ H Q q=>q
 | .neg t,cc,X,e,g,k,h=>by
  refine eP (P:=λe=>PT X e _) h λop x pos h=>?_
  replace h:=(av _ _).mp h
  cases op<;>first | exact absurd h.1 au | skip
  exact Gx (Tb t cc X x g k h.2)
theorem EW{kk:Nat}{G:a9}:∀(cs:List C)(cc:CC)(X:Cx)(es:List Expr),bW kk X cc G->sO cs=true->bu cc cs es=true->PA X es (zd X.K (a8 G cs))
 | [],cc,X,[],g,k,h=>Gu
 | [],cc,X,_::_,g,k,h=>by cases h
 | _::_,cc,X,[],g,k,h=>by cases h
 | c::cs,cc,X,e::es,g,k,h=>by
  have h':(aE e&&bw cc c e&&bu cc cs es)=true:=h;simp only[av]at h';exact Bf h'.1.1 (kF c cc X e g ((av _ _).mp k).1 h'.1.2) (EW cs cc X es g ((av _ _).mp k).2 h'.2)
theorem JD{kk:Nat}{G:a9}:∀(ts:List eh)(cc:CC)(X:Cx),bW kk X cc G->wB ts=true->∀t∈ts,∀e,jD cc t e=true->PT X e (mC X.K (dP G t))
 | [],cc,X,g,k,t,hm,e,h=>by cases hm
 | t'::ts,cc,X,g,k,t,hm,e,h=>by
  rcases cq.mp hm with z | z
  ·rw[z]at h⊢;exact Tb t' cc X e g ((av _ _).mp k).1 h
  ·exact JD ts cc X g ((av _ _).mp k).2 t z e h
end
section
variable [EX]
inductive TB where
 | asg (i f:Nat) (cs:List C) | nI (i f:Nat) (cs:List C) | exp (f:Nat) (cs:List C)
noncomputable def TB.fn:TB->Nat
 | .asg _ f _=>f
 | .nI _ f _=>f
 | .exp f _=>f
noncomputable def TB.args:TB->List C
 | .asg _ _ cs=>cs
 | .nI _ _ cs=>cs
 | .exp _ cs=>cs
inductive S where
 | asg (tg:List Nat) (c:C)
 | kG (i:Nat) (c:C)
 | put (o i v:C)
 | dput (o i v:C)
 | par (i j:Nat) (a b:C)
 | expr (c:C)
 | ret (c:C)
 | yR
 | iff (t:eh) (a b:List S)
 | dS (tg:List Nat) (k:SK) (cU:List C) (b:List S)
 | GG (n:Nat) (t:eh) (b:List S)
 | yS (a:Addr) (fs:List Str) (cs:List C)
 | kH (b:TB) (cb:Str) (mt:List (Addr×List Str)) (j:Nat) (h:List S)
 | never | pass | brk | cont
inductive aS where
 | nx (ρ:En) (M:ag) | rt (w:W) (M:ag) | bk (ρ:En) (M:ag) | ct (ρ:En) (M:ag) | er (x:tQ) (M:ag) | ae
noncomputable def aS.fk{α:Type}(o:bF α)(f:α->ag->aS):aS:=match o with
 | .ok a M=>f a M
 | .err x M=>.er x M
 | .ae=>.ae
noncomputable def aS.Lu(j:Nat)(o:aS):aS:=match o with
 | .nx ρ M=>.nx (ρ.set j none) M
 | _=>.ae
def TB.got(b:TB)(w:W)(M:ag)(ρ:En):aS:=match b with
 | .asg i _ _=>aS.fk (own w M) λd M=>.nx (ρ.set i (some d)) M
 | .nI i _ _=>aS.fk (own w M) λd M=>.nx (ρ.set i (some (.tup [d]))) M
 | .exp _ _=>.nx ρ M
noncomputable def aS.seq(o:aS)(f:En->ag->aS):aS:=match o with
 | .nx ρ M=>f ρ M
 | o=>o
def cY(body:En->ag->aS)(it:Ev.It)(tg:List Nat):Nat->Nat->En->ag->aS
 | 0,i,ρ,M=>match itemAt M i it with
  | some none=>.nx ρ M
  | _=>.ae
 | f+1,i,ρ,M=>match itemAt M i it with
  | some none=>.nx ρ M
  | some (some d)=>match bI tg d ρ with
   | none=>.ae
   | some ρ=>match body ρ M with
    | .nx ρ M=>cY body it tg f (i+1) ρ M
    | .ct ρ M=>cY body it tg f (i+1) ρ M
    | .bk ρ M=>.nx ρ M
    | .rt w M=>.rt w M
    | .er x M=>.er x M
    | .ae=>.ae
  | none=>.ae
noncomputable def yT(JE:En->ag->bF Bool)(body:En->ag->aS):Nat->En->ag->aS
  | 0,_,_=>.ae
  | f+1,ρ,M=>match JE ρ M with
    | .ok r M => if r then (match body ρ M with
        | .nx ρ M=>yT JE body f ρ M
        | .ct ρ M=>yT JE body f ρ M
        | .bk ρ M=>.nx ρ M
        | .rt w M=>.rt w M
        | .er x M=>.er x M
        | .ae=>.ae) else .nx ρ M
    | .err x M=>.er x M
    | .ae=>.ae
mutual
noncomputable def gw(G:a9):S->En->ag->aS
 | .asg tg c,ρ,M=>aS.fk ((ev G c ρ M).bind own) λd M=>match bI tg d ρ with
  | some ρ=>.nx ρ M
  | none=>.ae
 | .kG i c,ρ,M=>aS.fk ((ev G c ρ M).bind own) λd M=>.nx (ρ.set i (some d)) M
 | .put o i v,ρ,M=>aS.fk ((ev G v ρ M).bind own) λd M=>aS.fk (ev G o ρ M) λx M=>aS.fk (ev G i ρ M) λy M=>aS.fk (jz x y d M) λ_ M=>.nx ρ M
 | .dput o i v,ρ,M=>aS.fk ((ev G v ρ M).bind own) λd M=>aS.fk (ev G o ρ M) λx M=>aS.fk (ev G i ρ M) λy M=>aS.fk (gV x y d M) λ_ M=>.nx ρ M
 | .par i j a b,ρ,M=>aS.fk (a8 G [a,b] ρ M) λds M=>match ds with
  | [x,y]=>.nx ((ρ.set i (some x)).set j (some y)) M
  | _=>.ae
 | .expr c,ρ,M=>aS.fk (ev G c ρ M) λ_ M=>.nx ρ M
 | .ret c,ρ,M=>aS.fk (ev G c ρ M) λw M=>.rt w M
 | .yR,_,M=>.rt (.d .aK) M
 | .iff t a b,ρ,M=>aS.fk (dP G t ρ M) λr M=>if r then bO G a ρ M else bO G b ρ M
 | .dS tg k cU b,ρ,M=>aS.fk (dh G k cU ρ M) λit M=>cY (λρ M=>bO G b ρ M) it tg (dv M it) 0 ρ M
 | .GG n t b,ρ,M=>yT (λρ M=>dP G t ρ M) (λρ M=>bO G b ρ M) n ρ M
 | .yS a f c,ρ,M=>aS.fk (a8 G c ρ M) λds M=>.er ⟨a,f.zip ds⟩ M
 | .kH b _ mt j h,ρ,M=>match a8 G b.args ρ M with
  | .ok ds M1=>match G b.fn ds M1 with
   | .ok w M2=>b.got w M2 ρ
   | .err x M2=>if mt.lookup x.cls=some (x.fs.map (·.1)) then (bO G h (ρ.set j (some (.aC M2.length))) (M2++[.xc x.cls x.fs])).Lu j else .ae
   | .ae=>.ae
  | _=>.ae
 | .never,_,_=>.ae
 | .pass,ρ,M=>.nx ρ M
 | .brk,ρ,M=>.bk ρ M
 | .cont,ρ,M=>.ct ρ M
noncomputable def bO(G:a9):List S->En->ag->aS
 | [],ρ,M=>.nx ρ M
 | s::ss,ρ,M=>(gw G s ρ M).seq λρ M=>bO G ss ρ M
end
section
variable {G:a9} {lo hi:Option C} {cond:Option eh}
theorem wC : gw G (.asg tg c) ρ M = (aS.fk ((ev G c ρ M).bind own) fun d M => match bI tg d ρ with
    | some ρ=>.nx ρ M
    | none=>.ae):=rfl
theorem sP:gw G (.kG i c) ρ M=aS.fk ((ev G c ρ M).bind own) λd M=>.nx (ρ.set i (some d)) M:=rfl
theorem wD:gw G (.put o i v) ρ M=aS.fk ((ev G v ρ M).bind own) λd M=>aS.fk (ev G o ρ M) λx M=>aS.fk (ev G i ρ M) λy M=>aS.fk (jz x y d M) λ_ M=>.nx ρ M:=rfl
theorem sQ:gw G (.dput o i v) ρ M=aS.fk ((ev G v ρ M).bind own) λd M=>aS.fk (ev G o ρ M) λx M=>aS.fk (ev G i ρ M) λy M=>aS.fk (gV x y d M) λ_ M=>.nx ρ M:=rfl
theorem EY : gw G (.par i j a b) ρ M = (aS.fk (a8 G [a, b] ρ M) fun ds M => match ds with
    | [x,y]=>.nx ((ρ.set i (some x)).set j (some y)) M
    | _=>.ae):=rfl
theorem sR:gw G (.expr c) ρ M=aS.fk (ev G c ρ M) λ_ M=>.nx ρ M:=rfl
theorem wF:gw G (.ret c) ρ M=aS.fk (ev G c ρ M) λw M=>.rt w M:=rfl
theorem wG:gw G (.iff t a b) ρ M=aS.fk (dP G t ρ M) λr M=>if r then bO G a ρ M else bO G b ρ M:=rfl
theorem sS:gw G (.dS tg k cU b) ρ M=aS.fk (dh G k cU ρ M) λit M=>cY (λρ M=>bO G b ρ M) it tg (dv M it) 0 ρ M:=rfl
theorem EZ:gw G (.GG n t b) ρ M=yT (λρ M=>dP G t ρ M) (λρ M=>bO G b ρ M) n ρ M:=rfl
theorem wH{f:List Str}{c:List C}:gw G (.yS a f c) ρ M=aS.fk (a8 G c ρ M) λds M=>.er ⟨a,f.zip ds⟩ M:=rfl
theorem mM {b : TB} {cb : Str} {mt : List (Addr × List Str)} {h : List S} : gw G (.kH b cb mt j h) ρ M = (match a8 G b.args ρ M with
    | .ok ds M1=>(match G b.fn ds M1 with
      | .ok w M2=>b.got w M2 ρ
      | .err x M2=>if mt.lookup x.cls=some (x.fs.map (·.1)) then (bO G h (ρ.set j (some (.aC M2.length))) (M2++[.xc x.cls x.fs])).Lu j else .ae
      | .ae=>.ae)
    | _=>.ae):=rfl
theorem sU:bO G [] ρ M=.nx ρ M:=rfl
theorem oH:bO G (s::ss) ρ M=(gw G s ρ M).seq λρ M=>bO G ss ρ M:=rfl
end
noncomputable def fg(e:Expr):Bool:=Nat.beq e.ctorIdx 8||(Nat.beq e.ctorIdx 9||Nat.beq e.ctorIdx 10)
def GH(cc:CC)(t v:Expr):Bool:=(!fg v && !(iu t&&iu v))||bH t λx _=>cc.names.lookup x==some .cell
mutual
noncomputable def JF:S->Bool
 | .asg tg c=>Nat.beq tg.length 1&&g8 c
 | .iff t a b=>BB t&&g9 a&&g9 b
 | .ret c=>g8 c
 | .expr c=>g8 c
 | .pass=>true
 | _=>false
noncomputable def g9:List S->Bool
 | []=>true
 | s::ss=>JF s&&g9 ss
end
noncomputable def BC(e:Stmt)(f:List Stmt->List ExceptHandler->List Stmt->List Stmt->Pos->Bool):Bool:=if h:e.ctorIdx=17 then Stmt.Try.elim (motive_2:=λ_=>Bool) e h f else false
theorem BD{P:Stmt->Prop}{e:Stmt}{f:List Stmt->List ExceptHandler->List Stmt->List Stmt->Pos->Bool}(h:BC e f=true)(k:∀a b c d e,f a b c d e=true->P (.Try a b c d e)):P e :=
 Stmt.Try.elim (motive_2:=λe=>BC e f=true->P e) e (bG h) (λa b c d e h=>k a b c d e h) h
def wI(cc:CC)(f:Nat)(cs:List C)(e:Expr):Bool:=dR e λfe args d7 _=>d7.isEmpty && !args.isEmpty&&(bH fe λx _=>cc.fs[f]? == some (x,cs.length)&&glob cc x&&aQ x)&&bu cc cs args
def BE(cc:CC)(i:Nat)(e:Expr):Bool:=bH e λx _=>cc.N[i]? == some x&&cc.names.lookup x==some .local
def GI(cc:CC):TB->Stmt->Bool
 | .asg i f cs,s=>d6 s λts v _=>match ts with
  | [t]=>BE cc i t&&wI cc f cs v
  | _=>false
 | .nI i f cs,s=>d6 s λts v _=>match ts with
  | [t]=>BE cc i t&&(iq v λes _ _=>match es with
   | [e]=>wI cc f cs e
   | _=>false)
  | _=>false
 | .exp f cs,s=>qh s λe _=>wI cc f cs e
mutual
noncomputable def BF(cc:CC):S->Stmt->Bool
 | .asg tg c,s=>d6 s λts v _=>match ts with
  | [t]=>gZ cc tg t&&GH cc t v&&(!fg v||Nat.beq v.ctorIdx 8)&&bw cc c v
  | _=>false
 | .kG i c,s=>d6 s λts v _=>match ts with
  | [t]=>bH t λx p=>gq v λel gens sc q=>cc.N[i]? == some x&&cc.names.lookup x==some .local&&p.line==q.line && !(sc.names.any λ(n,k)=>n==x&&(k == .local||k == .cell))&&bw cc c (.ListComp el gens sc q)
  | _=>false
 | .put o i v,s=>d6 s λts w _=>match ts with
  | [t]=>dg t λe f _=>gu f&&bw cc o e&&bw cc i f&&bw cc v w
  | _=>false
 | .dput o i v,s=>d6 s λts w _=>match ts with
  | [t]=>dg t λe f _=>gu f&&bw cc o e&&bw cc i f&&bw cc v w
  | _=>false
 | .par i j a b,s=>false
 | .expr c,s=>qh s λe _=>!fg e&&bw cc c e
 | .ret c,s=>jA s λo _=>match o with
  | some e=>bw cc c e
  | none=>false
 | .yR,s=>jA s λo _=>o.isNone
 | .iff t a b,s=>Jp s λc x y _=>jD cc t c&&d8 cc a x&&d8 cc b y
 | .dS tg k cU b,s=>AZ s λt aH body Oj _=>Oj.isEmpty&&qp cc k cU t aH&&gZ cc tg t&&d8 cc b body
 | .GG _ t b,s=>false
 | .yS a f c,s=>qg s λe k _=>k.isNone&&(match e with
  | some e=>dR e λfe args d7 _=>d7.isEmpty&&(bH fe λx _=>glob cc x&&aQ x&&cc.xs.cl.lookup x==some (a,f))&&Nat.beq c.length f.length&&Nat.ble f.length 100 && !args.isEmpty&&bu cc c args
  | none=>false)
 | .kH b cb mt j h,s=>BC s λbody hs Oj eY _=>Oj.isEmpty&&eY.isEmpty&&(match body,hs with
  | [st],[.ExceptHandler (some te) (some n) hb _]=>GI cc b st&&(bH te λy _=>y==cb&&glob cc y&&aQ y)&&cc.N[j]? == some n&&cc.names.lookup n==some .local&&mt.all (λp=>cc.xs.ct.contains (cb,p.1,p.2))&&g9 h && !hb.isEmpty&&d8 cc h hb
  | _,_=>false)
 | .never,_=>true
 | .pass,s=>uF s λ_=>true
 | .brk,s=>qj s λ_=>true
 | .cont,s=>jd s λ_=>true
noncomputable def d8(cc:CC):List S->List Stmt->Bool
 | [],[]=>true
 | s::ss,t::ts=>BF cc s t&&d8 cc ss ts
 | _,_=>false
end
def jh(K:PySem.W.Frag)(ads:List Addr)(H:Hp)(D:jm):aS->Prop
 | .nx ρ M=>∀cD H' ax,ay ads ax H H'->SR K ax M ρ cD H'->D.nx cD H'
 | .bk ρ M=>∀cD H' ax,ay ads ax H H'->SR K ax M ρ cD H'->D.bk cD H'
 | .ct ρ M=>∀cD H' ax,ay ads ax H H'->SR K ax M ρ cD H'->D.ct cD H'
 | .rt w M=>kU K ads H w M D.rt
 | .er x M=>EX.post K ads H x M
 | .ae=>False
def m7(K:PySem.W.Frag)(o:En->ag->aS):TS:=λD σ H=>∃ads M ρ,SR K ads M ρ σ H/\jh K ads H D (o ρ M)
theorem jh.shift{K:PySem.W.Frag}{ads ax:List Addr}{H H':Hp}{M M2:ag}{D:jm}{o:aS}(p:jh K ads H D o)(g:ay ads ax H H')(m:aD K ads H M)(m':aD K ax H' M2):jh K ax H' D o:=by
 cases o with
 | nx ρ M=>exact λσ H1 ah g1 s1=>p σ H1 ah (g.trans g1) s1
 | bk ρ M=>exact λσ H1 ah g1 s1=>p σ H1 ah (g.trans g1) s1
 | ct ρ M=>exact λσ H1 ah g1 s1=>p σ H1 ah (g.trans g1) s1
 | rt w M=>exact kU.shift p g m m'
 | er x M=>exact EX.shift p g
 | ae=>exact p
theorem uL{X:Cx}{st:Stmt}{t u:TS}(h:PS X st t)(f:∀D σ H,u D σ H->t D σ H):PS X st u:=λaa s σ H D I q=>h aa s σ H D I (f D σ H q)
theorem E2{X:Cx}{st:List Stmt}{t u:TS}(h:nP X st t)(f:∀D σ H,u D σ H->t D σ H):nP X st u:=λaa s σ H D I q=>h aa s σ H D I (f D σ H q)
section
variable {kk:Nat} {X:Cx} {cc:CC} {G:a9}
theorem qv{e:Expr}(h:fg e=false)(t:Option Expr)(l:Nat)(env:Env):swapsWith e t l env=pure false:=by
 cases e<;>first | rfl | exact absurd (show true=false from h).symm au
theorem GJ{K:PySem.W.Frag}{o:En->ag->aS}{k:En->ag->aS}{σ:L2.St}{H:Hp}{D:jm}(h:m7 K (λρ M=>(o ρ M).seq k) D σ H):Mu (m7 K o) (m7 K k) D σ H:=by
 obtain⟨ads,M,ρ,s,q⟩:=h;have q:jh K ads H D ((o ρ M).seq k):=q;refine⟨ads,M,ρ,s,?_⟩
 cases hq:o ρ M with
 | nx Lv M1 =>
  rw[hq]at q;intro UP H1 ah g1 s1;exact⟨ah,M1,Lv,s1,jh.shift (o:=k Lv M1) q g1 s.mem s1.mem⟩
 | bk ρ M=>rw[hq]at q;exact q
 | ct ρ M=>rw[hq]at q;exact q
 | rt w M=>rw[hq]at q;exact q
 | er x M=>rw[hq]at q;exact q
 | ae=>rw[hq]at q;exact q
theorem E3 {K : PySem.W.Frag} {body : En -> ag -> aS} {it : Ev.It} {J : L2.It} {tg : List Nat} {tb : TS} (hb : ∀ D σ H, m7 K body D σ H -> tb D σ H) {ads : List Addr} {M : ag} {ρ : En} {σ : L2.St} {H : Hp} {D : jm} {f : Nat}
    (s:SR K ads M ρ σ H) (hJ:GC K ads H it J) (q:jh K ads H D (cY body it tg f 0 ρ M)) :
    ∃W:Nat->Nat->L2.St->Hp->Prop,(∃m,W 0 m σ H)/\∀i m σ H,W i m σ H ->
      (J.stop i H/\D.nx σ H)\/(J.go i H/\∃N:L2.St->Hp->Prop,(∀cD H',N cD H'->∃m',m'<m/\W (i+1) m' cD H')/\∀x H',J.Lb i H x H'->tG K tg x σ H' λDv H2=>tb {D with nx:=N,ct:=N,bk:=D.nx} Dv H2):=by
  refine⟨λi m cD H'=>∃ax M' dJ,SR K ax M' dJ cD H'/\ay ads ax H H'/\jh K ads H D (cY body it tg m i dJ M'),⟨f,ads,M,ρ,s,ay.refl _ _,q⟩,?_⟩;rintro i m cD H' ⟨ax,M',dJ,s',g',q'⟩;obtain⟨r1,r2⟩:=hJ i ax H' M' g' s'.mem
  cases m with
  | zero =>
    unfold cY at q';split at q'
    · rename_i hi
      exact .inl ⟨r1 hi,q' cD H' ax g' s'⟩
    · exact q'.elim
  | succ m =>
    unfold cY at q';split at q'
    · rename_i hi
      exact .inl ⟨r1 hi,q' cD H' ax g' s'⟩
    · rename_i d hi
      obtain⟨go,yl⟩:=r2 d hi
      cases Ol:bI tg d dJ with
      | none=>rw[Ol]at q';exact q'.elim
      | some Lv =>
        rw[Ol]at q';dsimp only at q';refine .inr ⟨go,λDv H2=>∃aM M2 JG,SR K aM M2 JG Dv H2/\ay ads aM H H2/\jh K ads H D (cY body it tg m (i+1) JG M2),λDv H2 h=>⟨m,xH _,h⟩,λx H2 y=>?_⟩;obtain⟨g2,m2,rd⟩:=yl x H2 y;refine⟨ax,M',dJ,d,s'.grow g2 m2,rd,Lv,Ol,λDv s2=>hb _ _ _ ⟨ax,M',Lv,s2,?_⟩⟩;have gg:=g'.trans g2
        cases hq:body Lv M' with
        | nx Qq M3=>rw[hq]at q';exact λDx H3 cQ g3 s3=>⟨cQ,M3,Qq,s3,gg.trans g3,q'⟩
        | ct Qq M3=>rw[hq]at q';exact λDx H3 cQ g3 s3=>⟨cQ,M3,Qq,s3,gg.trans g3,q'⟩
        | bk Qq M3=>rw[hq]at q';exact λDx H3 cQ g3 s3=>q' Dx H3 cQ (gg.trans g3) s3
        | rt w M3=>rw[hq]at q';exact kU.shift (M:=M) (M2:=M') q' gg s.mem s2.mem
        | er x M3=>rw[hq]at q';exact EX.shift (show EX.post K ads H _ _ from q') gg
        | ae=>rw[hq]at q';exact q'.elim
    · exact q'.elim
theorem Tc{K:PySem.W.Frag}{ads:List Addr}{M:ag}{ρ:En}{σ:L2.St}{H:Hp}{D:jm}{o:En->ag->bF W}{k:W->ag->aS}{R:V->Hp->Prop}(s:SR K ads M ρ σ H)(q:jh K ads H D (aS.fk (o ρ M) k))(hk:∀w M1 v H1 ah,SR K ah M1 ρ σ H1->RW K ah H1 w v->jh K ah H1 D (k w M1)->R v H1):tE K o σ H R:=by
 refine⟨ads,M,ρ,s,?_⟩
 cases hq:o ρ M with
 | ok w M1 =>
  rw[hq]at q;intro v H1 ah g1 m1 r1;exact hk w M1 v H1 ah (s.grow g1 m1) r1.rw (jh.shift (o:=k w M1) q g1 s.mem m1)
 | err _ _=>rw[hq]at q;exact q
 | ae=>rw[hq]at q;exact q
theorem E4{K:PySem.W.Frag}{ads:List Addr}{M:ag}{ρ:En}{σ:L2.St}{H:Hp}{D:jm}{c:C}{k:Ev.D->ag->aS}{R:V->Hp->Prop}(s:SR K ads M ρ σ H)(q:jh K ads H D (aS.fk ((ev G c ρ M).bind own) k))(hk:∀(d:Ev.D) M1 v H1 ah,SR K ah M1 ρ σ H1->RD K ah H1 d v->jh K ah H1 D (k d M1)->R v H1):tE K (ev G c) σ H R:=by
 refine⟨ads,M,ρ,s,?_⟩
 cases hq:ev G c ρ M with
 | ok w M1 =>
  rw[hq]at q;intro v H1 ah g1 m1 r1;have q:jh K ads H D (aS.fk (own w M1) k):=q
  cases ho:own w M1 with
  | ok d M2 =>
   rw[ho]at q;obtain⟨aM,g2,m2,rd⟩:=kA s.mem g1 m1 r1 ho;exact hk d M2 v H1 aM (s.grow g2 m2) rd (jh.shift (o:=k d M2) q g2 s.mem m2)
  | err _ _=>cases w<;>cases ho
  | ae=>cases w<;>cases ho
 | err _ _=>rw[hq]at q;exact q
 | ae=>rw[hq]at q;exact q
theorem E5{tg:List Nat}{t:Expr}(h:gZ cc tg t=true):(∃x p,t=.Name x p)\/∃es k p,t=.Tuple es k p:=by
 rcases tg with _|⟨i,_|⟨j,r⟩⟩
 ·exact absurd h au
 ·exact .inl (aF (P:=λt=>∃x p,t=.Name x p) ((av _ _).mp h).1 λx p _=>⟨x,p,rfl⟩)
 ·exact .inr (ff (P:=λt=>∃es k p,t=.Tuple es k p) h λes k p _=>⟨es,k,p,rfl⟩)
theorem oJ{el:Expr}{gens:List Comprehension}{sc:Scope}{q p:Pos}{x:Str}{l:Nat}{env:Env}:swapsWith (.ListComp el gens sc q) (some (.Name x p)) l env=pure (env.blockKind == .function&&env.kindOf x==some .local&&p.line==q.line && !(sc.names.any λ(n,k)=>n==x&&(k == .local||k == .cell))):=rfl
theorem GK{tg:List Nat}{c:C}{t v:Expr}{pos:Pos}(g:bW kk X cc G)(hg:PG X t (tG X.K tg))(ht:gZ cc tg t=true)(hv:GH cc t v=true)(Xm:fg v=true->∃el gens sc q,v=.ListComp el gens sc q)(he:PE X v (tE X.K (ev G c))):PS X (.Assign [t] v pos) (m7 X.K (gw G (.asg tg c))):=by
 have nu:∀D σ H,m7 X.K (gw G (.asg tg c)) D σ H->MD (tE X.K (ev G c)) (tG X.K tg) D σ H:=by
  intro D σ H q;obtain⟨ads,M,ρ,s,q⟩:=q;refine E4 s (by simp only[wC]at q;exact q) λd M1 v H1 ah s1 rd q1=>?_
  cases hb:bI tg d ρ with
  | none=>simp only[hb]at q1;exact q1.elim
  | some dJ =>
   simp only[hb]at q1;exact⟨ah,M1,ρ,d,s1,rd,dJ,hb,λcD s'=>q1 cD H1 ah (ay.refl _ _) s'⟩
 rcases E5 ht with⟨x,p,rfl⟩|⟨es,k,p,rfl⟩
 ·refine uL (pk he hg ?_ (by unfold swappedStores;cases v<;>rfl) rfl) nu;show swapsWith v (some (.Name x p)) pos.line X.env=pure false
  cases hc:fg v with
  | false=>exact qv hc _ _ _
  | true =>
   have hv:((!fg v && !(false&&iu v))||(cc.names.lookup x==some .cell))=true:=hv;rw[hc]at hv;have hk:X.env.kindOf x=some .cell:=g.kinds x .cell (by simpa using hv);obtain⟨el,gens,sc,q,rfl⟩:=Xm hc;rw[oJ,hk,show((some NameKind.cell:Option NameKind)==some NameKind.local)=false from rfl];simp
 ·have MN:((!fg v && !(true&&iu v))||false)=true:=hv;simp only[xR,zA,av,gh]at MN;refine uL (pk he hg (show swapsWithSole [.Tuple es k p] v pos.line X.env=pure false from qv MN.1 (some (.Tuple es k p)) pos.line X.env) ?_ rfl) nu;unfold swappedStores;cases v<;>first | rfl | exact absurd (show true=false from MN.2).symm au
theorem JH{i:Nat}{c:C}{x:Str}{p q pos:Pos}{el t aH:Expr}{ifs:List Expr}{sc:Scope}{N':List Str}{cz:List (Option Nat)}{wi:TI}{gt:TG}{tc:Option TT}{te:TE}(g:Good kk X cc G)(hk:X.env.blockKind=.function)(hx:cc.N[i]?=some x)(hl:cc.names.lookup x=some .local)(hp:p.line=q.line)(hn:(sc.names.any λ(n,k)=>n==x&&(k == .local||k == .cell))=false)(hw:∀(aa:List (Addr×Obj))(s:Shared)(σ:L2.St)(H:Hp),Inv X aa σ H s->∃cl,PI X t aH wi/\kc X sc N' cz cl t el ifs gt tc te)(Ju:∀x,foldedSetIterable aH X.env x=pure x)(nu:∀σ H Q,tE X.K (ev G c) σ H Q->vM cz wi gt tc te σ H Q):PS X (.Assign [.Name x p] (.ListComp el [⟨t,aH,ifs,0⟩] sc q) pos) (m7 X.K (gw G (.kG i c))):=by
 intro aa s σ H D I h;obtain⟨cl,hi,ck⟩:=hw aa s σ H I;refine D2 (i:=i) g.calm (by rw[g.N];exact g.nd) (by rw[g.N];exact hx) (g.kinds x _ hl) ?_ hi ck Ju aa s σ H D I ?_
 ·rw[oJ,hk,show X.env.kindOf x=some .local from g.kinds x _ hl,hn,hp];simp
 ·obtain⟨ads,M,ρ,sr,h⟩:=h;refine nu σ H _ (E4 sr (by simp only[sP]at h;exact h) λd M1 v H1 ah s1 rd q1=>?_);exact q1 _ H1 ah (ay.refl _ _) (s1.set i rd)
theorem Om{o i v:C}{e f w:Expr}{sp pos:Pos}(g:Good kk X cc G)(hf:gu f=true)(ho:PE X e (tE X.K (ev G o)))(hi:PE X f (tE X.K (ev G i)))(hv:PE X w (tE X.K (ev G v))):PS X (.Assign [.Subscript e f sp] w pos) (m7 X.K (gw G (.put o i v))):=by
 have Ln:=g.rh.un;refine uL (pk hv (zN ho hi (Jo ∅) (by intro _;cases f<;>first | rfl | exact absurd (show false=true from hf) au)) (show swapsWithSole [.Subscript e f sp] w pos.line X.env=pure false from (by cases w<;>rfl)) (by unfold swappedStores;cases w<;>rfl) rfl) λD σ H q=>?_;obtain⟨ads,M,ρ,s,q⟩:=q;refine E4 s (by simp only[wD]at q;exact q) λd M1 v H1 ah s1 rd q1=>?_;refine⟨ah,M1,ρ,s1,?_⟩
 cases h2:ev G o ρ M1 with
 | ok wo M2 =>
  rw[h2]at q1;intro vo H2 aM g2 m2 ro;have s2:=s1.grow g2 m2;refine⟨aM,M2,ρ,s2,?_⟩;have q2:jh X.K ah H1 D (aS.fk (ev G i ρ M2) λy M=>aS.fk (jz wo y d M) λ_ M=>.nx ρ M):=q1
  cases h3:ev G i ρ M2 with
  | ok wi M3 =>
   rw[h3]at q2;intro vi H3 cQ g3 m3 ri;have s3:=s2.grow g3 m3;have q3:jh X.K ah H1 D (aS.fk (jz wo wi d M3) λ_ M=>.nx ρ M):=q2;refine⟨cQ,M3,wo,wi,d,m3,g3.rw ro.rw,ri.rw,(g2.trans g3).rd _ _ rd,?_⟩
   cases h4:jz wo wi d M3 with
   | ok u M4 =>
    rw[h4]at q3;intro H4 yO g4 m4;exact q3 σ H4 yO ((g2.trans g3).trans g4) (s3.grow g4 m4)
   | err _ _=>rw[h4]at q3;exact EX.shift (show EX.post X.K ah H1 _ _ from q3) (g2.trans g3)
   | ae=>rw[h4]at q3;exact q3
  | err _ _=>rw[h3]at q2;exact EX.shift (show EX.post X.K ah H1 _ _ from q2) g2
  | ae=>rw[h3]at q2;exact q2
 | err _ _=>rw[h2]at q1;exact q1
 | ae=>rw[h2]at q1;exact q1
theorem JI{o i v:C}{e f w:Expr}{sp pos:Pos}(g:Good kk X cc G)(hf:gu f=true)(ho:PE X e (tE X.K (ev G o)))(hi:PE X f (tE X.K (ev G i)))(hv:PE X w (tE X.K (ev G v))):PS X (.Assign [.Subscript e f sp] w pos) (m7 X.K (gw G (.dput o i v))):=by
 have Ln:=g.rh.un;refine uL (pk hv (zN ho hi (EE ∅) (by intro _;cases f<;>first | rfl | exact absurd (show false=true from hf) au)) (show swapsWithSole [.Subscript e f sp] w pos.line X.env=pure false from (by cases w<;>rfl)) (by unfold swappedStores;cases w<;>rfl) rfl) λD σ H q=>?_;obtain⟨ads,M,ρ,s,q⟩:=q;refine E4 s (by simp only[sQ]at q;exact q) λd M1 v H1 ah s1 rd q1=>?_;refine⟨ah,M1,ρ,s1,?_⟩
 cases h2:ev G o ρ M1 with
 | ok wo M2 =>
  rw[h2]at q1;intro vo H2 aM g2 m2 ro;have s2:=s1.grow g2 m2;refine⟨aM,M2,ρ,s2,?_⟩;have q2:jh X.K ah H1 D (aS.fk (ev G i ρ M2) λy M=>aS.fk (gV wo y d M) λ_ M=>.nx ρ M):=q1
  cases h3:ev G i ρ M2 with
  | ok wi M3 =>
   rw[h3]at q2;intro vi H3 cQ g3 m3 ri;have s3:=s2.grow g3 m3;have q3:jh X.K ah H1 D (aS.fk (gV wo wi d M3) λ_ M=>.nx ρ M):=q2;refine⟨cQ,M3,wo,wi,d,m3,g3.rw ro.rw,ri.rw,(g2.trans g3).rd _ _ rd,?_⟩
   cases h4:gV wo wi d M3 with
   | ok u M4 =>
    rw[h4]at q3;intro H4 yO g4 m4;exact q3 σ H4 yO ((g2.trans g3).trans g4) (s3.grow g4 m4)
   | err _ _=>rw[h4]at q3;exact EX.shift (show EX.post X.K ah H1 _ _ from q3) (g2.trans g3)
   | ae=>rw[h4]at q3;exact q3
  | err _ _=>rw[h3]at q2;exact EX.shift (show EX.post X.K ah H1 _ _ from q2) g2
  | ae=>rw[h3]at q2;exact q2
 | err _ _=>rw[h2]at q1;exact q1
 | ae=>rw[h2]at q1;exact q1
theorem BG{c:C}{e:Expr}{pos:Pos}(hc:fg e=false)(he:PE X e (tE X.K (ev G c))):PS X (.Expr e pos) (m7 X.K (gw G (.expr c))):=by
 refine uL (Dq he (qv hc _ _ _)) λD σ H q=>?_;obtain⟨ads,M,ρ,s,q⟩:=q;exact Tc (k:=λ_ M=>.nx ρ M) s (by simp only[sR]at q;exact q) λw M1 v H1 ah s1 r1 q1=>q1 σ H1 ah (ay.refl _ _) s1
theorem GL{c:C}{e:Expr}{pos:Pos}(he:PE X e (tE X.K (ev G c))):PS X (.Return (some e) pos) (m7 X.K (gw G (.ret c))):=by
 refine uL (HQ he) λD σ H q=>?_;obtain⟨ads,M,ρ,s,q⟩:=q;refine⟨ads,M,ρ,s,?_⟩;simp only[wF]at q
 cases hq:ev G c ρ M with
 | ok w M1=>rw[hq]at q;exact q
 | err _ _=>rw[hq]at q;exact q
 | ae=>rw[hq]at q;exact q
theorem Oo{t:eh}{a b:List S}{c:Expr}{x y:List Stmt}{pos:Pos}(ht:PT X c (mC X.K (dP G t)))(ha:nP X x (m7 X.K (bO G a)))(hb:nP X y (m7 X.K (bO G b))):PS X (.If c x y pos) (m7 X.K (gw G (.iff t a b))):=by
 refine uL (MB ht ha hb) λD σ H q=>?_;obtain⟨ads,M,ρ,s,q⟩:=q;refine⟨ads,M,ρ,s,?_⟩;simp only[wG]at q
 cases hq:dP G t ρ M with
 | ok r M1 =>
  rw[hq]at q;intro H1 ah g1 m1;have q:jh X.K ads H D (if r then bO G a ρ M1 else bO G b ρ M1):=q;have q:=q.shift g1 s.mem m1
  cases r with
  | true=>rw[aU rfl]at q⊢;exact⟨ah,M1,ρ,s.grow g1 m1,q⟩
  | false=>rw[aX (by simp)]at q⊢;exact⟨ah,M1,ρ,s.grow g1 m1,q⟩
 | err _ _=>rw[hq]at q;exact q
 | ae=>rw[hq]at q;exact q
theorem Oq{tg:List Nat}{k:SK}{cU:List C}{b:List S}{t aH:Expr}{body:List Stmt}{pos:Pos}(g:Good kk X cc G)(hx:PassesOwn (model X.prog X.w) X.A X.env X.xe)(hs:PI X t aH (tI X.K (dh G k cU)))(hn:fL aH=true)(ht:gZ cc tg t=true)(hb:nP X body (m7 X.K (bO G b))):PS X (.For t aH body [] pos) (m7 X.K (gw G (.dS tg k cU b))):=by
 refine uL (HU hx g.calm hs (jI g ht) hb (qt hn X.env)) λD σ H q=>?_;obtain⟨ads,M,ρ,s,q⟩:=q;refine⟨ads,M,ρ,s,?_⟩;simp only[sS]at q
 cases hq:dh G k cU ρ M with
 | ok it M1 =>
  rw[hq]at q;intro J H1 ah g1 m1 rj;exact E3 (λD σ H h=>h) (s.grow g1 m1) rj (jh.shift (o:=cY (λρ M=>bO G b ρ M) it tg (dv M1 it) 0 ρ M1) q g1 s.mem m1)
 | err _ _=>rw[hq]at q;exact q
 | ae=>rw[hq]at q;exact q
end
section
variable {kk:Nat} {X:Cx} {cc:CC} {G:a9}
def Ot(kk:Nat)(X:Cx)(xs:List (Str×Addr×List Str)):Prop:=∀(x:Str)(a:Addr)(f:List Str),xs.lookup x=some (a,f)->∃D fI fd sf oI j,j+1<=kk/\pR X.K a D fI f/\X.K.lookup fI=some oI/\oI.cls=.type "function" /\ eZ X.prog X.w X.K X.mg X.base y9 j fI fd (sf::f) (IM X.K a D fI f)/\Binds X.K fd (sf::f) []/\X.mg x=some (.ref a)
theorem aT.zip{K:PySem.W.Frag}{ads:List Addr}{H:Hp}:∀{f:List Str}{ds:List D}{vs:List V},aT K ads H ds vs->bN K ads H (f.zip ds) (f.zip vs)
 | [],_,_,_=>by simp only[List.zip_nil_left];unfold bN;rfl
 | _::_,[],vs,h=>by unfold aT at h;subst h;simp only[List.zip_nil_right];unfold bN;rfl
 | f::fs,d::ds,vs,h=>by
  unfold aT at h;obtain⟨x,r,rfl,h1,h2⟩:=h;simp only[List.zip_cons_cons];unfold bN;exact⟨_,_,rfl,rfl,h1,aT.zip h2⟩
theorem Ou{a:Addr}{f:List Str}{x:Str}{c:List C}{e:Expr}{es:List Expr}{np dG pos:Pos}{E:XK}(g:Good kk X cc G)(p:oq X E)(im:∀{K:PySem.W.Frag}{ads:List Addr}{H:Hp}{x:tQ}{M:ag},EX.post K ads H x M->(AD E).post K ads H x M)(hd:X.A.handled=none)(Td:Ot kk X cc.xs.cl)(hg:glob cc x=true)(hp:aQ x=true)(hl:cc.xs.cl.lookup x=some (a,f))(EU:c.length=f.length)(Te:f.length<=100)(fO:aE e=true)(j_:(backTo dG (starEach (e::es) X.env)).any (·.1)=false)(ha:PA X (e::es) (zd X.K (a8 G c))):PS X (.Raise (some (.Call (.Name x np) (e::es) [] dG)) none pos) (m7 X.K (gw G (.yS a f c))):=by
 obtain⟨D,fI,fd,sf,oI,j,hj,xi,lo,co,F,hb,hm⟩:=Td x a f hl;refine uL (Ax p hd xi lo co F (g.room.mono hj) hb (bJ Te (by decide)) (g.gl hg) hm ha (bq fO es X.env) j_ (cP hp).1) λZ σ H q=>?_;obtain⟨ads,M,ρ,s,q⟩:=q;refine⟨ads,M,ρ,s,?_⟩;simp only[wH]at q
 cases hd:a8 G c ρ M with
 | ok ds M1 =>
  rw[hd]at q;intro vs H1 ah g1 m1 rd;refine⟨by rw[<- rd.len,g7 _ _ _ _ _ hd,EU],λe dx n1 n2 ne=>?_⟩;have q:EX.post X.K ads H ⟨a,f.zip ds⟩ M1:=q;have g2:=ay.dM (o:=.xd (f.zip vs)) m1 n2;have m2:=m1.dM (o:=.xd (f.zip vs)) n2;have n3:a_ H1 dx (.xd (f.zip vs)) e=none:=by rw[ai (dq ne)];exact n1
  have g3:=ay.dM (o:=XO e a dx) m2 n3;have m3:=m2.dM (o:=XO e a dx) n3;exact im q _ ah dx (f.zip vs) ((g1.trans g2).trans g3) m3 (by rw[ai ne];exact aB) (aT.zip ((g2.trans g3).nD _ _ rd))
 | err x M1=>rw[hd]at q;exact q
 | ae=>rw[hd]at q;exact q.elim
end
end
section
variable [EX]
section
variable {kk:Nat} {G:a9} {X:Cx} {cc:CC}
theorem E6{tg:List Nat}{cond:Option eh}{elt:C}{cz:List (Option Nat)}{el t:Expr}{ifs:List Expr}{sc:Scope}(g:Good kk X cc G)(Bx:sD cc sc=true)(Ak:cz=mG cc sc)(Ta:gZ (oF cc sc) tg t=true)(jJ:EI (oF cc sc) cond ifs=true)(Tf:bw (oF cc sc) elt el=true)(aa:List (Addr×Obj))(s:Shared)(σ:L2.St)(H:Hp)(I:Inv X aa σ H s):∃cl,kc X sc (eE sc) cz cl t el ifs (tG X.K tg) (cond.map λt=>@mC never X.K (dP G t)) (@tE never X.K (ev G elt)):=by
 obtain⟨h1,h2,h3,h4,h5⟩:=lE Bx
 obtain⟨cl,EU⟩:=wz (X:=X) (sc:=sc) λy hy hf=>by
  obtain⟨_,ho⟩:=h5 y hy hf;refine I.ok.has y.1 ?_;rcases ho with ho | ho
  ·exact .inl (g.kinds _ _ ho)
  ·exact g.kinds _ _ ho
 refine⟨cl,h1,h2,h3,EU,Ak▸Bv g Bx,λC s H fp=>(by have gb:=g.block (cl:=cl) Bx C s H fp;letI:=never;exact jI gb Ta),?_,λC s H fp=>aY elt never (oF cc sc) _ el (g.block Bx C s H fp) Tf⟩
 cases cond with
 | none =>
  cases ifs with
  | nil=>rfl
  | cons _ _=>cases jJ
 | some tt =>
  cases ifs with
  | nil=>cases jJ
  | cons e es =>
   cases es with
   | cons _ _=>cases jJ
   | nil=>exact⟨e,rfl,λC s H fp=>Bz tt never (oF cc sc) (X.block sc cl C (eE sc) s H fp []) e (g.block Bx C s H fp) jJ⟩
theorem E7{k:SK}{cU:List C}{tg:List Nat}{cond:Option eh}{elt:C}{cz:List (Option Nat)}(σ:L2.St)(H:Hp)(Q:VK)(q:tE X.K (ev G (.comp k cU tg cond elt cz)) σ H Q):vM cz (tI X.K (dh G k cU)) (tG X.K tg) (cond.map λt=>@mC never X.K (dP G t)) (@tE never X.K (ev G elt)) σ H Q:=by
 obtain⟨ads,M,ρ,sr,q⟩:=q;refine⟨ads,M,ρ,sr,?_⟩
 have q:bQ X.K ads H Q ((dh G k cU ρ M).bind λit M=>bg (λτ M=>bP G cond τ M) (λτ M=>(ev G elt τ M).bind own) it tg (dv M it) 0 (eI cz ρ) M []):=by
  simp only[pW]at q;unfold dh
  cases hw:cV G cU ρ M with
  | ok ws M1=>rw[hw]at q;exact q
  | err _ _=>rw[hw]at q;exact q
  | ae=>rw[hw]at q;exact q
 cases hs:dh G k cU ρ M with
 | ok it M1 =>
  rw[hs]at q;intro J H1 ah g1 m1 rj;exact sN (sr.grow g1 m1) rj (bQ.shift (o:=bg (λτ M=>bP G cond τ M) (λτ M=>(ev G elt τ M).bind own) it tg (dv M1 it) 0 (eI cz ρ) M1 []) q g1 sr.mem m1)
 | err _ _=>rw[hs]at q;exact q
 | ae=>rw[hs]at q;exact q
structure oK (kk:Nat) (X:Cx) (cc:CC) (G:a9):Prop where
 g:Good kk X cc G
 bk:X.env.blockKind=.function
 nx:PassesOwn (model X.prog X.w) X.A X.env X.xe
 xp:∃E:XK,oq X E/\∀{K:PySem.W.Frag}{ads:List Addr}{H:Hp}{x:tQ}{M:ag},EX.post K ads H x M->(AD E).post K ads H x M
 xs:Ot kk X cc.xs.cl
 vt:X.stack=X.env::X.outer/\X.env.frame=some X.env.locals
theorem oM{v:Expr}(h:(!fg v||Nat.beq v.ctorIdx 8)=true)(hc:fg v=true):∃el gens sc q,v=.ListComp el gens sc q:=by
 rw[hc]at h;exact Expr.ListComp.elim (motive_1:=λv=>∃el gens sc q,v=.ListComp el gens sc q) v (Nat.eq_of_beq_eq_true h) λel gens sc q=>⟨el,gens,sc,q,rfl⟩
theorem JJ{c:C}{el:Expr}{gens:List Comprehension}{sc:Scope}{q:Pos}(h:bw cc c (.ListComp el gens sc q)=true):∃k cU tg cond elt cz,c=.comp k cU tg cond elt cz:=by
 cases c<;>first | exact absurd (show false=true from h) au | exact⟨_,_,_,_,_,_,rfl⟩
end
mutual
theorem Xn{kk:Nat}{G:a9}:∀(s:S)(cc:CC)(X:Cx)(st:Stmt),bW kk X cc G->JF s=true->BF cc s st=true->PS X st (@m7 never X.K (gw G s))
 | .asg tg c,cc,X,st,g,k,h=>cH (P:=λst=>PS X st _) h λts v pos h=>by
  letI:=never
  rcases ts with _|⟨t,_|⟨_,_⟩⟩<;>first | exact absurd h au | skip
  simp only[av]at h;have k:(Nat.beq tg.length 1&&g8 c)=true:=k
  replace k:=(av _ _).mp k
  rcases tg with _|⟨i,_|⟨_,_⟩⟩<;>first | exact absurd k.1 au | skip
  exact GK g (yQ g h.1.1.1) h.1.1.1 h.1.1.2 (oM h.1.2) (kF c cc X v g k.2 h.2)
 | .iff t a b,cc,X,st,g,k,h=>v9 (P:=λst=>PS X st _) h λc x y pos h=>by
  letI:=never
  simp only[av]at h;have k:(BB t&&g9 a&&g9 b)=true:=k;simp only[av]at k;exact Oo (Tb t cc X c g k.1.1 h.1.1) (E8 a cc X x g k.1.2 h.1.2) (E8 b cc X y g k.2 h.2)
 | .ret c,cc,X,st,g,k,h=>gX (P:=λst=>PS X st _) h λv pos h=>by
  letI:=never
  cases v with
  | none=>exact absurd h au
  | some e=>exact GL (kF c cc X e g k h)
 | .expr c,cc,X,st,g,k,h=>kz (P:=λst=>PS X st _) h λe pos h=>by
  letI:=never
  simp only[av,gh]at h;exact BG h.1 (kF c cc X e g k h.2)
 | .pass,cc,X,st,g,k,h=>oE (P:=λst=>PS X st _) h λpos h=>uL vD λD σ H q=>by
  obtain⟨ads,M,ρ,s,q⟩:=q;exact q σ H ads (ay.refl _ _) s
 | .kG i c,cc,X,st,g,k,h=>absurd k au
 | .par i j a b,cc,X,st,g,k,h=>absurd k au
 | .put o i v,cc,X,st,g,k,h=>absurd k au
 | .dput o i v,cc,X,st,g,k,h=>absurd k au
 | .yR,cc,X,st,g,k,h=>absurd k au
 | .dS tg sk cU b,cc,X,st,g,k,h=>absurd k au
 | .GG n t b,cc,X,st,g,k,h=>absurd k au
 | .yS a f c,cc,X,st,g,k,h=>absurd k au
 | .kH b cb mt j hh,cc,X,st,g,k,h=>absurd k au
 | .never,cc,X,st,g,k,h=>absurd k au
 | .brk,cc,X,st,g,k,h=>absurd k au
 | .cont,cc,X,st,g,k,h=>absurd k au
theorem E8{kk:Nat}{G:a9}:∀(ss:List S)(cc:CC)(X:Cx)(st:List Stmt),bW kk X cc G->g9 ss=true->d8 cc ss st=true->nP X st (@m7 never X.K (bO G ss))
 | [],cc,X,[],g,k,h=>E2 vC λD σ H q=>by
  obtain⟨ads,M,ρ,s,q⟩:=q;exact q σ H ads (ay.refl _ _) s
 | [],cc,X,_::_,g,k,h=>by cases h
 | _::_,cc,X,[],g,k,h=>by cases h
 | s::ss,cc,X,t::ts,g,k,h=>by
  letI:=never
  have h':(BF cc s t&&d8 cc ss ts)=true:=h;simp only[av]at h';have k:(JF s&&g9 ss)=true:=k;simp only[av]at k;exact E2 (lV (Xn s cc X t g k.1 h'.1) (E8 ss cc X ts g k.2 h'.2)) λD σ H q=>GJ q
end
section
variable {kk:Nat} {X:Cx} {cc:CC} {G:a9}
theorem SR.unset{K:PySem.W.Frag}{ads:List Addr}{M:ag}{ρ:En}{σ:L2.St}{H:Hp}(s:SR K ads M ρ σ H)(i:Nat):SR K ads M (ρ.set i none) (σ.set i none) H :=
 ⟨s.mem,λj d' e=>by
  by_cases h:i=j
  ·subst h;rw[List.getElem?_set]at e;split at e
   ·split at e<;>cases e
   ·exact absurd rfl ‹_›
  ·rw[lL h]at e⊢;exact s.en j d' e,by rw[rf,rf];exact s.ln⟩
theorem Good.Dn(g:Good kk X cc G):@Good never kk X.Dn cc G :=
 @Good.mk never kk X.Dn cc G ⟨g.rh,g.N,g.nd,g.kinds,g.S3,g.blt,g.Qm,g.S4,g.cat,g.Ju⟩ g.calm g.room g.fns ⟨E0,(by rintro _ _ _ _ _ _ _ ⟨_,_,_,_,_,_,_,_,_,_,_,_,_,h⟩;exact h.elim),λh=>h.elim⟩
theorem bW.hx(g:bW kk X cc G)(e:Addr):bW kk (X.hx e) cc G:=⟨⟨g.rh.dp,g.rh.un⟩,g.N,g.nd,g.kinds,g.S3,g.blt,g.Qm,g.S4,g.cat,g.Ju⟩
theorem E9{b:TB}{cb n:Str}{mt:List (Addr×List Str)}{j:Nat}{h:List S}{tp hp:Pos}{b0:Stmt}{hb:List Stmt}{aa:List (Addr×Obj)}{s2:Shared}{σ:L2.St}{H0 H2:Hp}{Z:jm}{BH aM:List Addr}{ρ:En}{M0 M2:ag}{x:tQ}{ea dx T:Addr}{gs:List (Str×V)}{lo:Nat}(g:oK kk X cc G)(Oe:glob cc cb=true)(j_:aQ cb=true)(hj:cc.N[j]?=some n)(hl:cc.names.lookup n=some .local)(Th:(mt.all λp=>cc.xs.ct.contains (cb,p.1,p.2))=true)(Ti:g9 h=true)(Tj:d8 cc h (b0::hb)=true)(sr:SR X.K BH M0 ρ σ H0)(I2:Inv X aa σ H2 s2)(xa:vP s2.heap lo ea x.cls dx (some T))(Ov:H2 ea=some (XO ea x.cls dx))(hT:lr X aa H2 (some T))(l2:lo<=s2.heap.objs.size)(gr:ay BH aM H0 H2)(Tl:ea∉BH->H0 ea=none)(m2:aD X.K aM H2 M2)(hd:H2 dx=some (.xd gs))(rk:bN X.K aM H2 x.fs gs)(hm:mt.lookup x.cls=some (x.fs.map (·.1)))(q:jh X.K BH H0 Z ((bO G h (ρ.set j (some (.aC M2.length))) (M2++[.xc x.cls x.fs])).Lu j)):wpAny (model X.prog X.w) X.A (noteFrame (.ref ea) X.env) (λ_ s2=>wpAny (model X.prog X.w) X.A (setFlight (.ref ea) none) (λ_ s3=>wpAny (model X.prog X.w) X.A (handleBy (.ref ea) X.env [.ExceptHandler (some (.Name cb tp)) (some n) (b0::hb) hp]) (SP X aa Z) X.xe s3) X.xe s2) X.xe s2:=by
 obtain⟨B,D,fI,mB,k1,k2,xi⟩:=g.g.cat cb x.cls (x.fs.map (·.1)) (by have:=gM.mp Th (x.cls,x.fs.map (·.1)) (kC hm);simpa using this);refine uu I2 g.vt xa Ov hT l2 (g.g.gl Oe) mB (cP j_).1 k1 k2 (by rw[g.g.N];exact g.g.nd) (by rw[g.g.N];exact hj) (g.g.kinds n _ hl) (E8 h cc (X.hx ea) (b0::hb) (g.g.cC.hx ea) Ti Tj) ?_;have mp:aD X.K (aM++[ea]) H2 (M2++[.xc x.cls x.fs]):=m2.pushX (.inr ⟨x.cls,dx,x.fs,rfl,Ov⟩) ⟨dx,gs,Ov,hd,rk,D,fI,xi⟩
 have Vo:ay BH (aM++[ea]) H0 H2:=by
  obtain⟨r,e⟩:=gr.pre;refine⟨⟨r++[ea],by rw[e,xF]⟩,λb hb nb=>?_,gr.kept,gr.fQ,gr.gA⟩;rcases gO.mp hb with z | z
  ·exact gr.new b z nb
  ·obtain rfl:b=ea:=by simpa using z
   exact Tl nb
 have Xo:SR X.K (aM++[ea]) (M2++[.xc x.cls x.fs]) (ρ.set j (some (.aC M2.length))) (σ.set j (some (.ref ea))) H2:=(sr.grow Vo mp).set j (by unfold RD;exact⟨ea,rfl,by rw[<- m2.len];simp⟩);refine⟨aM++[ea],_,_,Xo,?_⟩
 cases ho:bO G h (ρ.set j (some (.aC M2.length))) (M2++[.xc x.cls x.fs])with
 | nx dJ M' =>
  rw[ho]at q;exact λcD H' ax g' s'=>q (cD.set j none) H' ax (Vo.trans g') (s'.unset j)
 | rt w M'=>rw[ho]at q;exact q.elim
 | bk _ _=>rw[ho]at q;exact q.elim
 | ct _ _=>rw[ho]at q;exact q.elim
 | er _ _=>rw[ho]at q;exact q.elim
 | ae=>rw[ho]at q;exact q.elim
theorem mO{b:TB}{cb n:Str}{mt:List (Addr×List Str)}{j:Nat}{h:List S}{tp hp p cp:Pos}{b0:Stmt}{hb:List Stmt}{aa:List (Addr×Obj)}{s:Shared}{σ:L2.St}{H:Hp}{Z:jm}{ads:List Addr}{ρ:En}{M:ag}{e:Expr}{es:List Expr}{x:Str}{R:Value->Shared->Prop}(g:oK kk X cc G)(Oe:glob cc cb=true)(j_:aQ cb=true)(hj:cc.N[j]?=some n)(hl:cc.names.lookup n=some .local)(Th:(mt.all λp=>cc.xs.ct.contains (cb,p.1,p.2))=true)(Ti:g9 h=true)(Tj:d8 cc h (b0::hb)=true)(hf:cc.fs[b.fn]?=some (x,b.args.length))(hg:glob cc x=true)(U3:aQ x=true)(hc:bu cc b.args (e::es)=true)(sr:SR X.K ads M ρ σ H)(I:Inv X aa σ H s)(q:jh X.K ads H Z (gw G (.kH b cb mt j h) ρ M))(hr:∀w M2 v u s2 H2 ah H1 aM,ay ads ah H H1->ay ah aM H1 H2->aD X.K aM H2 M2->aD X.K ah H1 M2\/True->Eo X.K aM H1 H2 w v->RelV v u->Inv X aa σ H2 s2->(∃M1,aD X.K ah H1 M1)->jh X.K ads H Z (b.got w M2 ρ)->R u s2):wpAny (model X.prog X.w) X.A (eval (.Call (.Name x p) (e::es) [] cp) X.env) R (λev s1=>wpAny (model X.prog X.w) X.A (noteFrame ev X.env) (λ_ s2=>wpAny (model X.prog X.w) X.A (setFlight ev none) (λ_ s3=>wpAny (model X.prog X.w) X.A (handleBy ev X.env [.ExceptHandler (some (.Name cb tp)) (some n) (b0::hb) hp]) (SP X aa Z) X.xe s3) X.xe s2) X.xe s1) s:=by
 obtain⟨fa,fd,ps,F,hm,hk,Ol⟩:=g.g.fns b.fn x _ hf
 have fO:aE e=true/\bu cc b.args.tail es=true:=by
  cases ha:b.args with
  | nil=>rw[ha]at hc;cases hc
  | cons c cs =>
   rw[ha]at hc;have h':(aE e&&bw cc c e&&bu cc cs es)=true:=hc;simp only[av]at h';exact⟨h'.1.1,h'.2⟩
 rw[mM]at q
 cases hd:a8 G b.args ρ M with
 | err _ _=>rw[hd]at q;exact q.elim
 | ae=>rw[hd]at q;exact q.elim
 | ok ds M1 =>
  rw[hd]at q
  have q:jh X.K ads H Z (match G b.fn ds M1 with
   | .ok w M2=>b.got w M2 ρ
   | .err x M2=>if mt.lookup x.cls=some (x.fs.map (·.1)) then (bO G h (ρ.set j (some (.aC M2.length))) (M2++[.xc x.cls x.fs])).Lu j else .ae
   | .ae=>.ae):=q
  have ha:=kW b.args never cc X.Dn (e::es) g.g.Dn hc;refine zm (ig I (g.g.gl hg) hm ?_ (cP U3).1);refine Hs (h₀:=X.base) I.ok.mod.Mj hk (j4 (ha cp aa s σ H (λvs H1=>∃ah,ay ads ah H H1/\aD X.K ah H1 M1/\aT X.K ah H1 ds vs) (I.lU _) ⟨ads,M,ρ,sr,by rw[hd];exact λvs H1 ah g1 m1 r1=>⟨ah,g1,m1,r1⟩⟩) (λus s1 ⟨vs,H1,I1,r,ah,g1,m1,r1⟩=>⟨I1.iU,?_⟩) λ_ _ z=>z.elim) (bq fO.1 es X.env) (cJ fO.2 X.env cp);have I1:=I1.gi
  let Q1:VK:=λv H2=>∃w M2 aM,G b.fn ds M1=.ok w M2/\ay ah aM H1 H2/\aD X.K aM H2 M2/\Eo X.K aM H1 H2 w v
  let E1:XK:=λcls Xp H2=>∃x M2 aM dx gs,cls=.ref x.cls/\Xp=some dx/\G b.fn ds M1=.err x M2/\ay ah aM H1 H2/\aD X.K aM H2 M2/\H2 dx=some (.xd gs)/\bN X.K aM H2 x.fs gs
  have rG:yN X.K b.args.length (G b.fn) vs H1 Q1 E1:=by
   refine⟨ah,M1,ds,m1,r1,g7 _ _ _ _ _ hd,?_⟩
   cases hG:G b.fn ds M1 with
   | ok w M2=>exact λv H2 aM g2 m2 r2=>⟨w,M2,aM,hG,g2,m2,r2⟩
   | err x M2=>exact λH2 aM dx gs g2 m2 hx rk=>⟨x,M2,aM,dx,gs,rfl,rfl,hG,g2,m2,hx,rk⟩
   | ae=>rw[hG]at q;exact q.elim
  have bf:us.length=ps.length:=by rw[<- r.length];exact F.len _ _ _ _ rG
  refine wpAny_call (xT (F.run X.A X.stack s1 H1 ⟨us,[]⟩ us vs Q1 E1 g.g.room I1.DH (by have:=Ol s1 us I1.iU (by rw[qZ];exact bf);rw[qZ]at this;exact this) r rG) λr s2 hq=>?_)
  cases r with
  | error ev =>
   obtain⟨ea,C',dx,T,H2,rfl,os,bare,un,bc,xa,Ov,hT,x,M2,aM,dx',gs,ec,ed,hG,g2,m2,hx,rk⟩:=hq;cases ec;cases ed;rw[hG]at q;have q:jh X.K ads H Z (if mt.lookup x.cls=some (x.fs.map (·.1)) then (bO G h (ρ.set j (some (.aC M2.length))) (M2++[.xc x.cls x.fs])).Lu j else .ae):=q;split at q
   ·rename_i Xq
    have I2:Inv X aa σ H2 s2:=I1.zG os un bc bare (λb z=>absurd z (by simp));have xb:=xa;obtain⟨le,oe,vs',k1,_⟩:=xb;have l2:s1.heap.objs.size<=s2.heap.objs.size:=bJ le (oY (bE k1));have lT:s1.heap.objs.size<=T:=by obtain⟨_,_,_,_,_,_,_,_,_,z,_⟩:=xa;exact z
    have Tl:ea∉ads->H ea=none:=λnb=>by
     have z:H1 ea=none:=I1.bc.fresh le
     cases w:H ea with
     | none=>rfl
     | some o=>rw[g1.kept ea o nb w]at z;cases z
    exact E9 (b:=b) g Oe j_ hj hl Th Ti Tj sr I2 xa Ov (lr.new I1 lT hT) l2 (g1.trans g2) Tl m2 hx rk Xq q
   ·exact q.elim
  | ok fl =>
   cases fl with
   | next=>exact hq.elim
   | brk=>exact hq.elim
   | cont=>exact hq.elim
   | ret u =>
    obtain⟨v,H2,I2,rv,w,M2,aM,hG,g2,m2,Lw⟩:=I1.after hq;rw[hG]at q;exact hr w M2 v u s2 H2 ah H1 aM g1 g2 m2 (.inr True.intro) Lw rv I2 ⟨M1,m1⟩ q
theorem mP{f:Nat}{cs:List C}{P:Expr->Prop}{e:Expr}(h:wI cc f cs e=true)(k:∀x p a as cp,cc.fs[f]?=some (x,cs.length)->glob cc x=true->aQ x=true->bu cc cs (a::as)=true->P (.Call (.Name x p) (a::as) [] cp)):P e:=by
 refine bR (P:=P) h λfe args d7 cp h=>?_;simp only[av]at h;obtain⟨⟨⟨h1,h2⟩,h3⟩,h4⟩:=h;obtain rfl:=qY.mp h1;rcases args with _|⟨a,as⟩
 ·exact absurd (show false=true from h2) au
 ·refine aF (P:=λfe=>P (.Call fe (a::as) [] cp)) h3 λx p h3=>?_;simp only[av,eB]at h3;exact k x p a as cp h3.1.1 h3.1.2 h3.2 h4
theorem Ow{b:TB}{cb:Str}{mt:List (Addr×List Str)}{j:Nat}{h:List S}{st:Stmt}{te:Expr}{n:Str}{hb:List Stmt}{hp pos:Pos}(g:oK kk X cc G)(hk:(GI cc b st&&(bH te λy _=>y==cb&&glob cc y&&aQ y)&&cc.N[j]? == some n&&cc.names.lookup n==some .local&&mt.all (λp=>cc.xs.ct.contains (cb,p.1,p.2))&&g9 h && !hb.isEmpty&&d8 cc h hb)=true):PS X (.Try [st] [.ExceptHandler (some te) (some n) hb hp] [] [] pos) (m7 X.K (gw G (.kH b cb mt j h))):=by
 simp only[av,eB]at hk;obtain⟨⟨⟨⟨⟨⟨⟨k1,k2⟩,k3⟩,k4⟩,k5⟩,k6⟩,k7⟩,k8⟩:=hk;rcases hb with _|⟨b0,hb⟩
 ·exact absurd (show false=true from k7) au
 refine aF (P:=λte=>PS X (.Try [st] [.ExceptHandler (some te) (some n) (b0::hb) hp] [] [] pos) _) k2 λy tp k2=>?_;simp only[av]at k2;obtain⟨⟨z1,z2⟩,z3⟩:=k2;obtain rfl:=eq_of_beq z1;intro aa s σ H Z I q;obtain⟨ads,M,ρ,sr,q⟩:=q;have hN:X.N.Nodup:=by rw[g.g.N];exact g.g.nd
 cases b with
 | asg i f cs =>
  refine cH (P:=λst=>wpAny _ _ (exec (.Try [st] _ [] [] pos) _) _ _ _) k1 λts v ap k1=>?_;rcases ts with _|⟨t,_|⟨_,_⟩⟩<;>first | exact absurd k1 au | skip
  replace k1:=(av _ _).mp k1
  refine aF (P:=λt=>wpAny _ _ (exec (.Try [.Assign [t] v ap] _ [] [] pos) _) _ _ _) k1.1 λx px h1=>?_;simp only[av,eB]at h1;refine mP (P:=λv=>wpAny _ _ (exec (.Try [.Assign [.Name x px] v ap] _ [] [] pos) _) _ _ _) k1.2 λfx fp a as cp f1 f2 f3 f4=>?_;refine wpAny_Try_except (zu (wpAny_Assign_Name (mO (b:=.asg i f cs) g z2 z3 k3 k4 k5 k6 k8 f1 f2 f3 f4 sr I q λw M2 v u s2 H2 ah H1 aM g1 g2 m2 _ Lw rv I2 ⟨M1,m1⟩ q2=>?_) rfl));have q2:jh X.K ads H Z (aS.fk (own w M2) λd M=>.nx (ρ.set i (some d)) M):=q2
  cases ho:own w M2 with
  | err _ _=>cases w<;>cases ho
  | ae=>cases w<;>cases ho
  | ok d M3 =>
   rw[ho]at q2;obtain⟨cQ,g3,m3,rd⟩:=kA m1 g2 m2 Lw ho;exact jl I2 hN (by rw[g.g.N];exact h1.1) (.inl (g.g.kinds x _ h1.2)) rv (λs3 I3=>oX (oX ⟨_,H2,I3,q2 _ H2 cQ (g1.trans g3) ((sr.grow (g1.trans g3) m3).set i rd)⟩)) (.inr (g.g.kinds x _ h1.2))
 | nI i f cs =>
  refine cH (P:=λst=>wpAny _ _ (exec (.Try [st] _ [] [] pos) _) _ _ _) k1 λts v ap k1=>?_;rcases ts with _|⟨t,_|⟨_,_⟩⟩<;>first | exact absurd k1 au | skip
  replace k1:=(av _ _).mp k1
  refine aF (P:=λt=>wpAny _ _ (exec (.Try [.Assign [t] v ap] _ [] [] pos) _) _ _ _) k1.1 λx px h1=>?_;simp only[av,eB]at h1;refine ff (P:=λv=>wpAny _ _ (exec (.Try [.Assign [.Name x px] v ap] _ [] [] pos) _) _ _ _) k1.2 λes kt MP k9=>?_;rcases es with _|⟨e1,_|⟨_,_⟩⟩<;>first | exact absurd k9 au | skip
  refine mP (P:=λv=>wpAny _ _ (exec (.Try [.Assign [.Name x px] (.Tuple [v] kt MP) ap] _ [] [] pos) _) _ _ _) k9 λfx fp a as cp f1 f2 f3 f4=>?_;refine wpAny_Try_except (zu (wpAny_Assign_Name (wpAny_Tuple_spliced (Calls.spliced_cons (mO (b:=.nI i f cs) g z2 z3 k3 k4 k5 k6 k8 f1 f2 f3 f4 sr I q λw M2 v u s2 H2 ah H1 aM g1 g2 m2 _ Lw rv I2 ⟨M1,m1⟩ q2=>?_))) rfl));refine Calls.spliced_nil ⟨by show 1<=sizeLine;decide,?_⟩;have hf:H2 s2.heap.objs.size=none:=I2.bc.fresh (ar _);have q2:jh X.K ads H Z (aS.fk (own w M2) λd M=>.nx (ρ.set i (some (.tup [d]))) M):=q2
  cases ho:own w M2 with
  | err _ _=>cases w<;>cases ho
  | ae=>cases w<;>cases ho
  | ok d M3 =>
   rw[ho]at q2;obtain⟨cQ,g3,m3,rd⟩:=kA m1 g2 m2 Lw ho;have g4:=ay.dM (o:=.tup [v]) m3 hf;have m4:=m3.dM (o:=.tup [v]) hf;have gg:=(g1.trans g3).trans g4
   have rt:RD X.K cQ (a_ H2 s2.heap.objs.size (.tup [v])) (.tup [d]) (.ref s2.heap.objs.size):=by
    unfold RD;exact⟨_,_,rfl,aB,.one (g4.rd _ _ rd)⟩
   refine jl (H:=a_ H2 s2.heap.objs.size (.tup [v])) (v:=.ref s2.heap.objs.size) (I2.laid (t':=s2.toks) (λb u e=>cA _ e) (ar _) ?_) hN (by rw[g.g.N];exact h1.1) (.inl (g.g.kinds x _ h1.2)) rfl (λs3 I4=>oX (oX ⟨_,_,I4,q2 _ _ cQ gg ((sr.grow gg m4).set i rt)⟩)) (.inr (g.g.kinds x _ h1.2));exact⟨by show 1<=sizeLine;decide,[u],.cons rv .nil,⟨_,fm _ rfl,rfl,_,rfl⟩⟩
 | exp f cs =>
  refine kz (P:=λst=>wpAny _ _ (exec (.Try [st] _ [] [] pos) _) _ _ _) k1 λv ap k1=>?_;refine mP (P:=λv=>wpAny _ _ (exec (.Try [.Expr v ap] _ [] [] pos) _) _ _ _) k1 λfx fp a as cp f1 f2 f3 f4=>?_;refine wpAny_Try_except (zu (wpAny_Expr_any (mO (b:=.exp f cs) g z2 z3 k3 k4 k5 k6 k8 f1 f2 f3 f4 sr I q λw M2 v u s2 H2 ah H1 aM g1 g2 m2 _ Lw rv I2 ⟨M1,m1⟩ q2=>?_) I.quiet rfl));have q2:jh X.K ads H Z (.nx ρ M2):=q2;exact oX (oX ⟨_,H2,I2,q2 _ H2 aM (g1.trans g2) (sr.grow (g1.trans g2) m2)⟩)
end
mutual
theorem Tn{kk:Nat}{G:a9}:∀(s:S)(cc:CC)(X:Cx)(st:Stmt),oK kk X cc G->BF cc s st=true->PS X st (m7 X.K (gw G s))
 | .asg tg c,cc,X,st,g,h=>cH (P:=λst=>PS X st _) h λts v pos h=>by
  rcases ts with _|⟨t,_|⟨_,_⟩⟩<;>first | exact absurd h au | skip
  simp only[av]at h;exact GK g.g.cC (jI g.g h.1.1.1) h.1.1.1 h.1.1.2 (oM h.1.2) (aY c _ cc X v g.g h.2)
 | .kG i c,cc,X,st,g,h=>cH (P:=λst=>PS X st _) h λts v pos h=>by
  rcases ts with _|⟨t,_|⟨_,_⟩⟩<;>first | exact absurd h au | skip
  refine aF (P:=λt=>PS X (.Assign [t] v pos) _) h λx p h=>iO (P:=λv=>PS X (.Assign [.Name x p] v pos) _) h λel gens sc q h=>?_;simp only[av,gh]at h;obtain⟨⟨⟨⟨h1,h2⟩,h3⟩,h4⟩,h5⟩:=h;obtain⟨k,cU,tg,cond,elt,cz,rfl⟩:=JJ h5;rcases gens with _|⟨⟨t,aH,ifs,as⟩,_|⟨_,_⟩⟩<;>first | exact absurd (show false=true from h5) au | skip
  have h6:(as==0&&sD cc sc&&decide (cz=mG cc sc)&&qp cc k cU t aH&&gZ (oF cc sc) tg t&&EI (oF cc sc) cond ifs&&bw (oF cc sc) elt el)=true:=h5;simp only[av,eB,oW]at h6;obtain⟨⟨⟨⟨⟨⟨rfl,k1⟩,k2⟩,k3⟩,k4⟩,k5⟩,k6⟩:=h6;obtain⟨By,md⟩:=uK cU k _ cc X t aH g.g k3
  exact JH g.g g.bk (eq_of_beq h1) (eq_of_beq h2) (eq_of_beq h3) h4 (λaa s σ H I=>by
   obtain⟨cl,ck⟩:=E6 g.g k1 k2 k4 k5 k6 aa s σ H I;exact⟨cl,By,ck⟩) (qt md X.env) E7
 | .par i j a b,_,_,_,_,h=>absurd (show false=true from h) au
 | .put o i v,cc,X,st,g,h=>cH (P:=λst=>PS X st _) h λts w pos h=>by
  rcases ts with _|⟨t,_|⟨_,_⟩⟩<;>first | exact absurd h au | skip
  refine cG (P:=λt=>PS X (.Assign [t] w pos) _) h λe f sp h=>?_;simp only[av]at h;obtain⟨⟨⟨h1,h3⟩,h4⟩,h5⟩:=h;exact Om g.g h1 (aY o _ cc X e g.g h3) (aY i _ cc X f g.g h4) (aY v _ cc X w g.g h5)
 | .dput o i v,cc,X,st,g,h=>cH (P:=λst=>PS X st _) h λts w pos h=>by
  rcases ts with _|⟨t,_|⟨_,_⟩⟩<;>first | exact absurd h au | skip
  refine cG (P:=λt=>PS X (.Assign [t] w pos) _) h λe f sp h=>?_;simp only[av]at h;obtain⟨⟨⟨h1,h3⟩,h4⟩,h5⟩:=h;exact JI g.g h1 (aY o _ cc X e g.g h3) (aY i _ cc X f g.g h4) (aY v _ cc X w g.g h5)
 | .expr c,cc,X,st,g,h=>kz (P:=λst=>PS X st _) h λe pos h=>by
  simp only[av,gh]at h;exact BG h.1 (aY c _ cc X e g.g h.2)
 | .ret c,cc,X,st,g,h=>gX (P:=λst=>PS X st _) h λv pos h=>by
  cases v with
  | none=>exact absurd h au
  | some e=>exact GL (aY c _ cc X e g.g h)
 | .yR,cc,X,st,g,h=>gX (P:=λst=>PS X st _) h λv pos h=>by
  cases v with
  | some e=>exact absurd h au
  | none =>
   refine uL Dr λD σ H q=>?_;obtain⟨ads,M,ρ,s,q⟩:=q;exact q .aK H ads (ay.refl _ _) s.mem (show RD X.K ads H .aK .aK from ku)
 | .iff t a b,cc,X,st,g,h=>v9 (P:=λst=>PS X st _) h λc x y pos h=>by
  simp only[av]at h;exact Oo (Bz t _ cc X c g.g h.1.1) (sV a cc X x g h.1.2) (sV b cc X y g h.2)
 | .dS tg k cU b,cc,X,st,g,h=>A_ (P:=λst=>PS X st _) h λt aH body Oj pos h=>by
  simp only[av,qY]at h;obtain⟨⟨⟨rfl,h1⟩,h2⟩,h3⟩:=h;obtain⟨hs,hn⟩:=uK cU k _ cc X t aH g.g h1;exact Oq g.g g.nx hs hn h2 (sV b cc X body g h3)
 | .GG n t b,_,_,_,_,h=>absurd (show false=true from h) au
 | .yS a f c,cc,X,st,g,h=>uE (P:=λst=>PS X st _) h λe k pos h=>by
  replace h:=(av _ _).mp h
  cases k with
  | some _=>exact absurd h.1 au
  | none =>
   cases e with
   | none=>exact absurd h.2 au
   | some e =>
    refine bR (P:=λe=>PS X (.Raise (some e) none pos) _) h.2 λfe args d7 dG h=>?_;simp only[av]at h;obtain⟨⟨⟨⟨⟨h1,h2⟩,EU⟩,Te⟩,mZ⟩,h3⟩:=h;obtain rfl:=qY.mp h1;refine aF (P:=λfe=>PS X (.Raise (some (.Call fe args [] dG)) none pos) _) h2 λx np h2=>?_;simp only[av,eB]at h2;obtain⟨⟨k1,k2⟩,k3⟩:=h2;have EU:=Nat.eq_of_beq_eq_true EU;rcases args with _|⟨a1,as⟩
    ·exact absurd (show false=true from mZ) au
    ·rcases c with _|⟨c1,cs⟩
     ·cases h3
     ·have h4:(aE a1&&bw cc c1 a1&&bu cc cs as)=true:=h3;simp only[av]at h4;obtain⟨E,xp,im⟩:=g.xp;exact Ou g.g xp im g.g.room.hd g.xs k1 k2 k3 EU (aW Te) h4.1.1 (cJ h3 X.env dG) (kW (c1::cs) _ cc X (a1::as) g.g h3)
 | .kH b cb mt j hh,cc,X,st,g,h=>BD (P:=λst=>PS X st _) h λbody hs Oj eY pos h=>by
  simp only[av,qY]at h;obtain⟨⟨rfl,rfl⟩,h⟩:=h;rcases body with _|⟨st,_|⟨_,_⟩⟩<;>first | exact absurd h au | skip
  rcases hs with _|⟨⟨te,n,hb,hp⟩,_|⟨_,_⟩⟩<;>first | exact absurd h au | skip
  ·cases te with
   | none=>exact absurd h au
   | some te =>
    cases n with
    | none=>exact absurd h au
    | some n=>exact Ow g h
  ·cases te with
   | none=>exact absurd h au
   | some te =>
    cases n with
    | none=>exact absurd h au
    | some n=>exact absurd h au
 | .never,cc,X,st,g,h=>uL zL λD σ H q=>by
  obtain⟨ads,M,ρ,s,q⟩:=q;exact q
 | .pass,cc,X,st,g,h=>oE (P:=λst=>PS X st _) h λpos h=>uL vD λD σ H q=>by
  obtain⟨ads,M,ρ,s,q⟩:=q;exact q σ H ads (ay.refl _ _) s
 | .brk,cc,X,st,g,h=>uG (P:=λst=>PS X st _) h λpos h=>uL zK λD σ H q=>by
  obtain⟨ads,M,ρ,s,q⟩:=q;exact q σ H ads (ay.refl _ _) s
 | .cont,cc,X,st,g,h=>nH (P:=λst=>PS X st _) h λpos h=>uL rB λD σ H q=>by
  obtain⟨ads,M,ρ,s,q⟩:=q;exact q σ H ads (ay.refl _ _) s
theorem sV{kk:Nat}{G:a9}:∀(ss:List S)(cc:CC)(X:Cx)(st:List Stmt),oK kk X cc G->d8 cc ss st=true->nP X st (m7 X.K (bO G ss))
 | [],cc,X,[],g,h=>E2 vC λD σ H q=>by
  obtain⟨ads,M,ρ,s,q⟩:=q;exact q σ H ads (ay.refl _ _) s
 | [],cc,X,_::_,g,h=>by cases h
 | _::_,cc,X,[],g,h=>by cases h
 | s::ss,cc,X,t::ts,g,h=>by
  have h':(BF cc s t&&d8 cc ss ts)=true:=h;simp only[av]at h';exact E2 (lV (Tn s cc X t g h'.1) (sV ss cc X ts g h'.2)) λD σ H q=>GJ q
end
end
noncomputable def gx(n:Nat)(ds:List D):En:=ds.map some++List.replicate (n-ds.length) none
def aj(G:a9)(n:Nat)(body:List S)(ds:List D)(M:ag):bF W:=match bO G body (gx n ds) M with
 | .rt w M=>.ok w M
 | .nx _ M=>.ok (.d .aK) M
 | .er x M=>.err x M
 | _=>.ae
theorem BI{K:PySem.W.Frag}{ads:List Addr}{H:Hp}:∀{ds:List D}{vs:List V}(r:aT K ads H ds vs)(k:Nat),NP K ads H (ds.map some++List.replicate k none) (vs.map some++List.replicate k none)
 | ds,vs,r,k=>by
  intro i d e;by_cases hi:i<ds.length
  ·rw[gL (by simpa using hi),ji]at e
   cases q:ds[i]? with
   | none=>rw[q]at e;cases e
   | some d' =>
    rw[q]at e;cases e;obtain⟨v,ev,rv⟩:=r.get q;exact⟨v,by rw[gL (by rw[cM,<- r.len];exact hi),ji,ev];rfl,rv⟩
  ·rw[m9 (by simpa using hi),List.getElem?_replicate]at e;split at e<;>cases e
theorem BJ{P:Program}{w:World}{K:PySem.W.Frag}{mg:Str->Option Value}{base:Heap}{x qual:Str}{st:Stmt}{f:Addr}{fd:FuncData}{N ps:List Str}{k:Nat}{G:a9}{fs:List (Str×Nat)}{gs:List (Str×Int)}{xs:XI}{body:List S}{n:Nat}(F:Np K x qual st f fd)(Sc:il N ps (aG st))(hn:ps.length=n)(hb:d8 ⟨N,(aG st).names,fs,gs,xs⟩ body (bZ st)=true)(To:∀b∈cI,mg b=none)(Xr:∀(x:Str)(v:Int),gs.lookup x=some v->∃t,mg x=some (.int v t))(Ju:∀(i:Nat)(x:Str)(n:Nat),fs[i]?=some (x,n)->∃f fd ps,eZ P w K mg base (yA P w) k f fd ps (yN K n (G i))/\mg x=some (.ref f)/\PySem.W.keepIn K (.ref f)=true/\Binds K fd ps []) (Td:∀(x:Str)(a:Addr)(f:List Str),xs.cl.lookup x=some (a,f)->∃D fI fd sf oI j,j+1<=k/\pR K a D fI f/\K.lookup fI=some oI/\oI.cls=.type "function" /\ eZ P w K mg base y9 j fI fd (sf::f) (IM K a D fI f)/\Binds K fd (sf::f) []/\mg x=some (.ref a)) (Xs:∀k C r,(k,C,r)∈xs.kt->sE K mg k C r) (Xu:∀cb C fs,(cb,C,fs)∈xs.ct->wb K mg cb C fs) (Xv:∀(i:Nat)(x:Str)(n:Nat),fs[i]?=some (x,n)->i∈xs.hs->∃f fd ps,se P w K mg base y9 k f fd ps (yN K n (G i))/\mg x=some (.ref f)/\PySem.W.keepIn K (.ref f)=true/\Binds K fd ps []):eZ P w K mg base (yA P w) (k+1) f fd ps (yN K n (aj G N.length body)):=by
 have j_:ps.length<=N.length:=by have:=oZ List.length Sc.pre;rw[fD]at this;omega
 obtain⟨oc,od,kV,doc,pm,an,lY,ct,pA,rfl,lk,CK⟩:=F.ex;refine Ga lk CK Sc (λvs H Q E h=>?_) λA outer s H vs Q E hr rG=>?_
 ·obtain⟨ads,M,ds,m,r,hl,_⟩:=h;rw[<- r.len,hl,hn]
 ·letI:EX:=AD E
  have gs:oK k (rE (yA P w) P w K mg base N qual (aG st) f lY A outer s H E) ⟨N,(aG st).names,fs,gs,xs⟩ G:=by
   refine⟨⟨⟨⟨hr.dp,hr.un⟩,rfl,Sc.nd,λx k e=>?_,λ_ _=>rfl,To,Xr,Xs,Xu,Xv⟩,rfl,hr,Ju,⟨E,pQ.pass,λh=>h⟩⟩,?_,pQ.own,⟨E,pQ,λh=>h⟩,Td,⟨rfl,rfl⟩⟩
   ·have e:(aG st).names.lookup x=some k:=e
    cases k with
    | «local»=>exact e
    | cell=>exact e
    | free=>exact absurd rfl (Sc.zY _ (jY e))
    | globalExplicit=>exact True.intro
    | globalImplicit=>exact e
   ·show(if (aG st).kind.isAnnotationScope then ScopeKind.function else (aG st).kind)=_;rw[Sc.kind];rfl
  refine⟨_,sV body _ _ (bZ st) gs hb,?_⟩;obtain⟨ads,M,ds,m,r,hl,q⟩:=rG
  have bf:(gx N.length ds).length=N.length:=by
   unfold gx;rw[bY,cM,CU];omega
  refine⟨ads,M,gx N.length ds,⟨m,?_,?_⟩,?_⟩
  ·unfold gx L2.start;rw[<- r.len];exact BI r _
  ·rw[bf];unfold L2.start;rw[bY,cM,CU,<- r.len];omega
  ·unfold aj at q
   cases hq:bO G body (gx N.length ds) M with
   | nx ρ M1=>rw[hq]at q;exact λcD H' ax g s'=>q .aK H' ax g s'.mem (show RD K ax H' .aK .aK from ku)
   | rt w M1=>rw[hq]at q;exact q
   | bk _ _=>rw[hq]at q;exact q.elim
   | ct _ _=>rw[hq]at q;exact q.elim
   | er x M1=>rw[hq]at q;exact q
   | ae=>rw[hq]at q;exact q.elim
noncomputable def cv(l:List (List D->ag->bF W)):a9:=λi ds M=>match l[i]? with
 | some f=>f ds M
 | none=>.ae
theorem JK{K:PySem.W.Frag}{h:Heap}{mg:Str->Option Value}{gs:List (Str×Int)}(X:K.In h)(G:h.Ns mainGlobals mg)(z:gs.all (λp=>match PySem.W.nsIn K mainGlobals p.1 with | some (some (.int v _))=>v==p.2 | _=>false)=true):∀(x:Str)(v:Int),gs.lookup x=some v->∃t,mg x=some (.int v t):=by
 intro x v e;have q:=gM.mp z (x,v) (jY e);dsimp only at q;split at q
 ·rename_i w t e2
  obtain rfl:=eq_of_beq q;exact⟨t,rg X G e2⟩
 ·exact absurd q au
section
variable {P:Program} {w:World} {K:PySem.W.Frag} {mg:Str->Option Value} {base h:Heap} {k k2:Nat} {x:Str} {n:Nat} {fs:List (Str×Nat)} {Fs:List (List D->ag->bF W)} {F:List D->ag->bF W} {gs:List (Str×Int)}
structure Is (P:Program) (w:World) (K:PySem.W.Frag) (mg:Str->Option Value) (base:Heap) (k:Nat) (x:Str) (n:Nat) (F:List D->ag->bF W):Prop where
 is:∃f fd ps,eZ P w K mg base (yA P w) k f fd ps (yN K n F)/\mg x=some (.ref f)/\PySem.W.keepIn K (.ref f)=true/\Binds K fd ps []
theorem Is.mono(h:Is P w K mg base k x n F)(hk:k<=k2):Is P w K mg base k2 x n F:=by
 obtain⟨f,fd,ps,a,b⟩:=h.is;exact⟨f,fd,ps,a.mono hk,b⟩
noncomputable def All(P:Program)(w:World)(K:PySem.W.Frag)(mg:Str->Option Value)(base:Heap)(k:Nat)(fs:List (Str×Nat))(Fs:List (List D->ag->bF W)):Prop:=fs.length=Fs.length/\∀(i:Nat)(x:Str)(n:Nat),fs[i]?=some (x,n)->∃F,Fs[i]?=some F/\Is P w K mg base k x n F
theorem All.nil:All P w K mg base k [] []:=⟨rfl,λi x n e=>by simp at e⟩
theorem All.snoc(h:All P w K mg base k fs Fs)(g:Is P w K mg base (k+1) x n F):All P w K mg base (k+1) (fs++[(x,n)]) (Fs++[F]):=by
 obtain⟨hl,h⟩:=h;refine⟨by rw[bY,bY,hl];rfl,λi y m e=>?_⟩;by_cases hi:i<fs.length
 ·rw[gL hi]at e;obtain⟨F,a,b⟩:=h i y m e;exact⟨F,by rw[gL ∅];exact a,b.mono (xX _)⟩
 ·have:i=fs.length:=by
   have:=(d4.mp e).1;simp at this;omega
  subst this;simp at e;obtain⟨rfl,rfl⟩:=e;exact⟨F,by rw[hl];simp,g⟩
theorem All.fns(h:All P w K mg base k fs Fs):∀(i:Nat)(x:Str)(n:Nat),fs[i]?=some (x,n)->∃f fd ps,eZ P w K mg base (yA P w) k f fd ps (yN K n (cv Fs i))/\mg x=some (.ref f)/\PySem.W.keepIn K (.ref f)=true/\Binds K fd ps []:=λi y m e=>by
 obtain⟨F,a,b⟩:=h.2 i y m e;have:cv Fs i=F:=by funext ds M;unfold cv;rw[a]
 rw[this];exact b.is
noncomputable def Lx(N ps:List Str)(sc:Scope):Bool:=(match sc.kind with | .function=>true | _=>false) && !sc.isCoroutine && !sc.isGenerator&&decide N.Nodup&&decide (N.take ps.length=ps)&&ps.all (λx=>match sc.names.lookup x with | some .local=>true | some .cell=>true | _=>false)&&sc.names.all λy=>match y.2 with | .free=>false | _=>true
theorem uM{N ps:List Str}{sc:Scope}(h:Lx N ps sc=true):il N ps sc:=by
 unfold Lx at h;simp only[av,gM,oW,gh]at h;obtain⟨⟨⟨⟨⟨⟨h1,h2⟩,h3⟩,h4⟩,h5⟩,h6⟩,h7⟩:=h;refine⟨?_,h2,h3,h4,h5,λx hx=>?_,λy hy e=>?_⟩
 ·split at h1
  ·assumption
  ·cases h1
 ·have:=h6 x hx;split at this
  ·exact .inl (by assumption)
  ·exact .inr (by assumption)
  ·cases this
 ·have:=h7 y hy;rw[e]at this;cases this
noncomputable def Ox:Nat->(List Value->Prop)->Prop
 | 0,P=>P []
 | k+1,P=>∀a,Ox k λus=>P (a::us)
theorem wJ:∀{k:Nat}{P:List Value->Prop},Ox k P->∀us,us.length=k->P us:=by
 intro k
 induction k with
 | zero=>intro P h us e;rw[List.length_eq_zero_iff.mp e];exact h
 | succ k ih =>
  intro P h us e
  cases us with
  | nil=>cases e
  | cons a us=>exact ih (P:=λus=>P (a::us)) (h a) us (Nat.succ.inj e)
structure Cw (K:PySem.W.Frag) (h:Heap) (mg:Str->Option Value) (gs:List (Str×Int)):Prop where
 X:K.In h
 G:h.Ns mainGlobals mg
 b:∀b∈cI,mg b=none
 g:∀(x:Str)(v:Int),gs.lookup x=some v->∃t,mg x=some (.int v t)
structure Tp (P:Program) (w:World) (K:PySem.W.Frag) (mg:Str->Option Value) (base:Heap) (xs:XI):Prop where
 cl:∀(x:Str)(a:Addr)(f:List Str),xs.cl.lookup x=some (a,f)->∃D fI fd sf oI,pR K a D fI f/\K.lookup fI=some oI/\oI.cls=.type "function" /\ eZ P w K mg base y9 1 fI fd (sf::f) (IM K a D fI f)/\Binds K fd (sf::f) []/\mg x=some (.ref a)
 kt:∀k C r,(k,C,r)∈xs.kt->sE K mg k C r
 ct:∀cb C fs,(cb,C,fs)∈xs.ct->wb K mg cb C fs
def Xw(P:Program)(w:World)(K:PySem.W.Frag)(mg:Str->Option Value)(base:Heap)(k:Nat)(x:Str)(n:Nat)(F:List D->ag->bF W):Prop:=∃f fd ps,se P w K mg base y9 k f fd ps (yN K n F)/\mg x=some (.ref f)/\PySem.W.keepIn K (.ref f)=true/\Binds K fd ps []
theorem uN(x:Str)(a:Addr)(st:Stmt)(N ps:List Str)(b:List S)(m c:Value)(W:Cw K h mg gs)(A:All P w K mg base k fs Fs)(lk:K.lookup a=some (fo (fq x st m c)))(hc:PySem.W.codeIn K c x=true)(hk:PySem.W.keepIn K (.ref a)=true)(hb:(Lx N ps (aG st)&&d8 ⟨N,(aG st).names,fs,gs,EF⟩ b (bZ st))=true):eZ P w K mg base (yA P w) (k+1) a (fq x st m c) ps (yN K ps.length (aj (cv Fs) N.length b)) :=
 BJ (uj lk hc hk) (uM ((av _ _).mp hb).1) rfl ((av _ _).mp hb).2 W.b W.g A.fns (λ_ _ _ e=>nomatch e) (λ_ _ _ e=>nomatch e) (λ_ _ _ e=>nomatch e) (λ_ _ _ _ e=>nomatch e)
theorem nx(x:Str)(a:Addr)(st:Stmt)(N ps:List Str)(b:List S)(m c:Value)(W:Cw K h mg gs)(A:All P w K mg base k fs Fs)(ha:PySem.W.nsIn K mainGlobals x=some (some (.ref a)):=by (kernel_rfl))(lk:K.lookup a=some (fo (fq x st m c)):=by (kernel_rfl))(hc:PySem.W.codeIn K c x=true:=by (kernel_rfl))(hk:PySem.W.keepIn K (.ref a)=true:=by (kernel_rfl))(hb:(Lx N ps (aG st)&&d8 ⟨N,(aG st).names,fs,gs,EF⟩ b (bZ st))=true:=by (decide +kernel))(bd:Ox ps.length λus=>bindArgs (fq x st m c) ⟨us,[]⟩=pure (ps.zip us):=by (repeat intro _);rfl):All P w K mg base (k+1) (fs++[(x,ps.length)]) (Fs++[aj (cv Fs) N.length b]) :=
 A.snoc ⟨a,_,ps,uN x a st N ps b m c W A lk hc hk hb,rg W.X W.G ha,hk,.all (wJ bd)⟩
theorem Tq{xs:XI}(x:Str)(a:Addr)(st:Stmt)(N ps:List Str)(b:List S)(m c:Value)(W:Cw K h mg gs)(A:All P w K mg base k fs Fs)(X:Tp P w K mg base xs)(h2:2<=k)(hh:∀(i:Nat)(x:Str)(n:Nat),fs[i]?=some (x,n)->i∈xs.hs->Xw P w K mg base k x n (cv Fs i))(ha:PySem.W.nsIn K mainGlobals x=some (some (.ref a)):=by (kernel_rfl))(lk:K.lookup a=some (fo (fq x st m c)):=by (kernel_rfl))(hc:PySem.W.codeIn K c x=true:=by (kernel_rfl))(hk:PySem.W.keepIn K (.ref a)=true:=by (kernel_rfl))(hb:(Lx N ps (aG st)&&d8 ⟨N,(aG st).names,fs,gs,xs⟩ b (bZ st))=true:=by (decide +kernel))(bd:Ox ps.length λus=>bindArgs (fq x st m c) ⟨us,[]⟩=pure (ps.zip us):=by (repeat intro _);rfl):All P w K mg base (k+1) (fs++[(x,ps.length)]) (Fs++[aj (cv Fs) N.length b]) :=
 A.snoc ⟨a,_,ps,BJ (uj lk hc hk) (uM ((av _ _).mp hb).1) rfl ((av _ _).mp hb).2 W.b W.g A.fns (λx a f e=>by
  obtain⟨D,fI,fd,sf,oI,h1,h3,h4,h5,h6,h7⟩:=X.cl x a f e;exact⟨D,fI,fd,sf,oI,1,h2,h1,h3,h4,h5,h6,h7⟩) X.kt X.ct hh,rg W.X W.G ha,hk,.all (wJ bd)⟩
def BK(Fs:List (List D->ag->bF W))(N:Nat)(b:List S):Nat->List D->ag->bF W
 | 0=>λ_ _=>.ae
 | n+1=>aj (cv (Fs++[BK Fs N b n])) N b
theorem All.GN(h:All P w K mg base k fs Fs)(g:Is P w K mg base k2 x n F)(hk:k<=k2):All P w K mg base k2 (fs++[(x,n)]) (Fs++[F]):=by
 obtain⟨hl,h⟩:=h;refine⟨by rw[bY,bY,hl];rfl,λi y m e=>?_⟩;by_cases hi:i<fs.length
 ·rw[gL hi]at e;obtain⟨F,a,b⟩:=h i y m e;exact⟨F,by rw[gL ∅];exact a,b.mono hk⟩
 ·have:i=fs.length:=by
   have:=(d4.mp e).1;simp at this;omega
  subst this;simp at e;obtain⟨rfl,rfl⟩:=e;exact⟨F,by rw[hl];simp,g⟩
theorem Vp(x:Str)(a:Addr)(st:Stmt)(N ps:List Str)(b:List S)(m c:Value)(W:Cw K h mg gs)(A:All P w K mg base k fs Fs)(ha:PySem.W.nsIn K mainGlobals x=some (some (.ref a)):=by (kernel_rfl))(lk:K.lookup a=some (fo (fq x st m c)):=by (kernel_rfl))(hc:PySem.W.codeIn K c x=true:=by (kernel_rfl))(hk:PySem.W.keepIn K (.ref a)=true:=by (kernel_rfl))(hb:(Lx N ps (aG st)&&d8 ⟨N,(aG st).names,fs++[(x,ps.length)],gs,EF⟩ b (bZ st))=true:=by (decide +kernel))(bd:Ox ps.length λus=>bindArgs (fq x st m c) ⟨us,[]⟩=pure (ps.zip us):=by (repeat intro _);rfl):∀n,All P w K mg base (k+n) (fs++[(x,ps.length)]) (Fs++[BK Fs N.length b n])
 | 0=>A.GN ⟨a,fq x st m c,ps,⟨λvs H Q E z=>by obtain⟨_,_,_,_,_,_,q⟩:=z;exact q.elim,λA outer s H args us vs Q E _ _ _ _ z=>by obtain⟨_,_,_,_,_,_,q⟩:=z;exact q.elim⟩,rg W.X W.G ha,hk,.all (wJ bd)⟩ (ar _)
 | n+1=>by
  have A1:=Vp x a st N ps b m c W A ha lk hc hk hb bd n;have F:=uN x a st N ps b m c W A1 lk hc hk hb;exact A.GN ⟨a,fq x st m c,ps,F,rg W.X W.G ha,hk,.all (wJ bd)⟩ ∅
end
class Er where
 er:tQ->ag->Prop
@[reducible] def d9:Er:=⟨λ_ _=>False⟩
instance (priority:=low) Xx:Er:=d9
section
variable [er:Er]
@[irreducible] noncomputable def aL{α:Type}(o:bF α)(P:α->ag->Prop):Prop:=match o with
 | .ok a M=>P a M
 | .err x M=>Er.er x M
 | .ae=>False
theorem aJ{α:Type}{a:α}{M:ag}{P:α->ag->Prop}:aL (.ok a M) P=P a M:=by unfold aL;exact propext o_
theorem aw{α:Type}{P:α->ag->Prop}:aL .ae P=False:=by unfold aL;exact propext o_
theorem cZ{α:Type}{P:α->ag->Prop}{x:tQ}{M:ag}:aL (.err x M) P=Er.er x M:=by unfold aL;exact propext o_
theorem az{α β:Type}{o:bF α}{f:α->ag->bF β}{P:β->ag->Prop}:aL (o.bind f) P=aL o λa M=>aL (f a M) P:=by
 cases o with
 | ok a M=>rw[aJ];rfl
 | err _ _=>rw[cZ];exact cZ
 | ae=>rw[aw];exact aw
theorem aL.imp{α:Type}{o:bF α}{P Q:α->ag->Prop}(h:aL o P)(k:∀a M,P a M->Q a M):aL o Q:=by
 cases o with
 | ok a M=>rw[aJ]at h⊢;exact k a M h
 | err _ _=>rw[cZ]at h⊢;exact h
 | ae=>rw[aw]at h;exact h.elim
theorem JL{α:Type}{o:bF α}{a:α}{M:ag}{P:α->ag->Prop}(e:o=.ok a M)(h:P a M):aL o P:=by rw[e,aJ];exact h
theorem iw{α:Type}{c:Prop}[Decidable c]{o:bF α}{P:α->ag->Prop}:aL (if c then o else .ae) P=(c/\aL o P):=by
 by_cases h:c
 ·rw[aU h];exact propext ⟨λq=>⟨h,q⟩,λq=>q.2⟩
 ·rw[aX h,aw];exact propext ⟨λq=>q.elim,λq=>absurd q.1 h⟩
omit er in
theorem BL{α:Type}{o:bF α}{P:α->ag->Prop}(h:@aL d9 α o P):∃a M,o=.ok a M/\P a M:=by
 cases o with
 | ok a M=>rw[@aJ d9]at h;exact⟨a,M,rfl,h⟩
 | err _ _=>rw[@cZ d9]at h;exact h.elim
 | ae=>rw[@aw d9]at h;exact h.elim
theorem BM{α β:Type}{o:bF α}{f:α->ag->bF β}{P:β->ag->Prop}:aL (o.b0 f) P=@aL d9 α o λa M=>aL (f a M) P:=by
 cases o with
 | ok a M=>rw[@aJ d9];rfl
 | err _ _=>rw[@cZ d9];exact aw
 | ae=>rw[@aw d9];exact aw
@[irreducible] noncomputable def eA(o:aS)(nx:En->ag->Prop)(rt:W->ag->Prop)(bk ct:En->ag->Prop):Prop:=match o with
 | .nx ρ M=>nx ρ M
 | .rt w M=>rt w M
 | .bk ρ M=>bk ρ M
 | .ct ρ M=>ct ρ M
 | .er x M=>Er.er x M
 | .ae=>False
section
variable {nx:En->ag->Prop} {rt:W->ag->Prop} {bk ct:En->ag->Prop}
theorem cT{ρ:En}{M:ag}:eA (.nx ρ M) nx rt bk ct=nx ρ M:=by unfold eA;exact propext o_
theorem g_{w:W}{M:ag}:eA (.rt w M) nx rt bk ct=rt w M:=by unfold eA;exact propext o_
theorem kI{ρ:En}{M:ag}:eA (.bk ρ M) nx rt bk ct=bk ρ M:=by unfold eA;exact propext o_
theorem kJ{ρ:En}{M:ag}:eA (.ct ρ M) nx rt bk ct=ct ρ M:=by unfold eA;exact propext o_
theorem hU{x:tQ}{M:ag}:eA (.er x M) nx rt bk ct=Er.er x M:=by unfold eA;exact propext o_
theorem dj:eA .ae nx rt bk ct=False:=by unfold eA;exact propext o_
theorem dZ{α:Type}{o:bF α}{f:α->ag->aS}:eA (aS.fk o f) nx rt bk ct=aL o λa M=>eA (f a M) nx rt bk ct:=by
 cases o with
 | ok a M=>rw[aJ];rfl
 | err _ _=>rw[cZ];exact hU
 | ae=>rw[aw];exact dj
theorem E_{o:aS}{f:En->ag->aS}:eA (o.seq f) nx rt bk ct=eA o (λρ M=>eA (f ρ M) nx rt bk ct) rt bk ct:=by
 cases o with
 | nx ρ M=>rw[cT];rfl
 | rt ρ M=>rw[g_];exact g_
 | bk ρ M=>rw[kI];exact kI
 | ct ρ M=>rw[kJ];exact kJ
 | er ρ M=>rw[hU];exact hU
 | ae=>rw[dj];exact dj
end
theorem Fa{G:a9}{n:Nat}{b:List S}{ds:List D}{M:ag}{P:W->ag->Prop}:aL (aj G n b ds M) P=eA (bO G b (gx n ds) M) (λ_ M=>P (.d .aK) M) P (λ_ _=>False) (λ_ _=>False):=by
 unfold aj
 cases bO G b (gx n ds) M with
 | nx ρ M=>rw[cT];exact aJ
 | rt ρ M=>rw[g_];exact aJ
 | bk ρ M=>rw[kI];exact aw
 | ct ρ M=>rw[kJ];exact aw
 | er ρ M=>rw[hU];exact cZ
 | ae=>rw[dj];exact aw
section
variable {G:a9} {ρ:En} {M:ag} {P:W->ag->Prop}
theorem Oy{d:D}:aL (ev G (.aN d) ρ M) P=P (.d d) M:=by simp only[IT,aJ]
theorem Oz{op:CO}{a b:C}:aL (ev G (.bin op a b) ρ M) P=aL (ev G a ρ M) λx M=>aL (ev G b ρ M) λy M=>aL (pT op x y M) P:=by simp only[IU,az]
theorem OA{op:yE}{a b:C}:aL (ev G (.cmp op a b) ρ M) P=aL (ev G a ρ M) λx M=>aL (ev G b ρ M) λy M=>aL (bp op x y M) λr M=>P (.d (.bl r)) M:=by simp only[AJ,az,aJ]
theorem OB{cs:List C}:aL (ev G (.tup cs) ρ M) P=aL (a8 G cs ρ M) λds M=>ds.length<=sizeLine/\P (.d (.tup ds)) M:=by
 simp only[AK,az,iw,aJ]
theorem OC{cs:List C}:aL (ev G (.lst cs) ρ M) P=aL (a8 G cs ρ M) λds M=>ds.length<=sizeLine/\P (.lv ds) M:=by
 simp only[AM,az,iw,aJ]
theorem k_sub{a b:C}:aL (ev G (.sub a b) ρ M) P=aL (ev G a ρ M) λx M=>aL (ev G b ρ M) λy M=>aL (dO x y M) P:=by simp only[IW,az]
theorem OD{a:C}{lo hi:Option C}:aL (ev G (.gH a lo hi) ρ M) P=aL (ev G a ρ M) λx M=>aL (qU G lo ρ M) λl M=>aL (qU G hi ρ M) λh M=>aL (pU x l h M) P:=by simp only[IY,az]
theorem Tr{P:Option Int->ag->Prop}:aL (qU G none ρ M) P=P none M:=by simp only[my,mz,aJ]
theorem JM{f:Nat}{cs:List C}:aL (ev G (.call f cs) ρ M) P=aL (a8 G cs ρ M) λds M=>aL (G f ds M) P:=by simp only[vW,az]
theorem Tt{b:Bi}{cs:List C}:aL (ev G (.bi b cs) ρ M) P=aL (cV G cs ρ M) λws M=>aL (gI b ws M) P:=by simp only[AN,az]
theorem Tu{m:Me}{o:C}{cs:List C}:aL (ev G (.me m o cs) ρ M) P=aL (ev G o ρ M) λx M=>(dH M x).isSome=true/\aL (a8 G cs ρ M) λds M=>aL (uy m x ds M) P:=by
 simp only[AO,az,iw]
theorem OE{ks:List Str}{cs:List C}:aL (ev G (.vU ks cs) ρ M) P=aL (a8 G cs ρ M) λds M=>ks.length=ds.length/\P (.d (.aC M.length)) (M++[.dK ((ks.map Sum.inr).zip ds)]):=by
 simp only[uz,az,iw,aJ]
theorem JN{k:SK}{cU:List C}{tg:List Nat}{cond:Option eh}{elt:C}{cz:List (Option Nat)}:aL (ev G (.comp k cU tg cond elt cz) ρ M) P=aL (cV G cU ρ M) λws M=>aL (jy k ws M) λit M=>aL (bg (λτ M=>bP G cond τ M) (λτ M=>(ev G elt τ M).bind own) it tg (dv M it) 0 (eI cz ρ) M []) P:=by simp only[pW,az]
theorem Tv{P:List D->ag->Prop}:aL (a8 G [] ρ M) P=P [] M:=by simp only[fY,eT,aJ]
theorem Tw{c:C}{cs:List C}{P:List D->ag->Prop}:aL (a8 G (c::cs) ρ M) P=aL (ev G c ρ M) λw M=>aL (own w M) λd M=>aL (a8 G cs ρ M) λds M=>P (d::ds) M:=by simp only[fY,eT,az,aJ]
theorem TC{P:List W->ag->Prop}:aL (cV G [] ρ M) P=P [] M:=by simp only[gW,fZ,aJ]
theorem TH{c:C}{cs:List C}{P:List W->ag->Prop}:aL (cV G (c::cs) ρ M) P=aL (ev G c ρ M) λw M=>aL (cV G cs ρ M) λds M=>P (w::ds) M:=by simp only[gW,fZ,az,aJ]
theorem OF{c:C}{P:Bool->ag->Prop}:aL (dP G (.val c) ρ M) P=aL (ev G c ρ M) λw M=>∃r,nE M w=some r/\P r M:=by
 simp only[pX,az]
 congr 1;funext w M
 cases h:nE M w with
 | none=>simp only[reduceCtorEq,false_and,exists_false,aw]
 | some r=>simp only[qW,exists_eq_left',aJ]
theorem OG{a:eh}{P:Bool->ag->Prop}:aL (dP G (.neg a) ρ M) P=aL (dP G a ρ M) λr M=>P (!r) M:=by simp only[Em,az,aJ]
theorem JO{a:eh}{P:Bool->ag->Prop}:aL (fw G [a] ρ M) P=aL (dP G a ρ M) P:=by simp only[ko,jb,az,aJ]
theorem JP{a:eh}{P:Bool->ag->Prop}:aL (fy G [a] ρ M) P=aL (dP G a ρ M) P:=by simp only[kr,jc,az,aJ]
theorem JQ{a b:eh}{cs:List eh}{P:Bool->ag->Prop}:aL (fw G (a::b::cs) ρ M) P=aL (dP G a ρ M) λr M=>if r then aL (fw G (b::cs) ρ M) P else P false M:=by
 rw[jb];simp only[az]
 congr 1;funext r M
 cases r with
 | true=>rfl
 | false=>exact aJ
theorem JR{a b:eh}{cs:List eh}{P:Bool->ag->Prop}:aL (fy G (a::b::cs) ρ M) P=aL (dP G a ρ M) λr M=>if r then P true M else aL (fy G (b::cs) ρ M) P:=by
 rw[jc];simp only[az]
 congr 1;funext r M
 cases r with
 | true=>exact aJ
 | false=>rfl
theorem JS{ts:List eh}{P:Bool->ag->Prop}:aL (dP G (.cw ts) ρ M) P=aL (fw G ts ρ M) P:=by simp only[AQ]
theorem JT{ts:List eh}{P:Bool->ag->Prop}:aL (dP G (.bU ts) ρ M) P=aL (fy G ts ρ M) P:=by simp only[AR]
end
section
variable {G:a9} {ρ:En} {M:ag} {nx:En->ag->Prop} {rt:W->ag->Prop} {bk ct:En->ag->Prop}
theorem JU{i:Nat}{c:C}:eA (gw G (.kG i c) ρ M) nx rt bk ct=aL (ev G c ρ M) λw M=>aL (own w M) λd M=>nx (ρ.set i (some d)) M:=by simp only[sP,dZ,az,cT]
theorem OH{o i v:C}:eA (gw G (.put o i v) ρ M) nx rt bk ct=aL (ev G v ρ M) λw M=>aL (own w M) λd M=>aL (ev G o ρ M) λx M=>aL (ev G i ρ M) λy M=>aL (jz x y d M) λ_ M=>nx ρ M:=by simp only[wD,dZ,az,cT]
theorem JV{c:C}:eA (gw G (.expr c) ρ M) nx rt bk ct=aL (ev G c ρ M) λ_ M=>nx ρ M:=by simp only[sR,dZ,cT]
theorem OI{c:C}:eA (gw G (.ret c) ρ M) nx rt bk ct=aL (ev G c ρ M) rt:=by simp only[wF,dZ,g_]
theorem TJ{t:eh}{a b:List S}:eA (gw G (.iff t a b) ρ M) nx rt bk ct=aL (dP G t ρ M) λr M=>if r then eA (bO G a ρ M) nx rt bk ct else eA (bO G b ρ M) nx rt bk ct:=by
 simp only[wG,dZ]
 congr 1;funext r M
 cases r<;>rfl
theorem OJ{tg:List Nat}{k:SK}{cU:List C}{b:List S}:eA (gw G (.dS tg k cU b) ρ M) nx rt bk ct=aL (cV G cU ρ M) λws M=>aL (jy k ws M) λit M=>eA (cY (λρ M=>bO G b ρ M) it tg (dv M it) 0 ρ M) nx rt bk ct:=by
 simp only[sS,dZ,dh,az]
theorem OK:eA (bO G [] ρ M) nx rt bk ct=nx ρ M:=by simp only[sU,oH,cT]
theorem JW{s:S}{ss:List S}:eA (bO G (s::ss) ρ M) nx rt bk ct=eA (gw G s ρ M) (λρ M=>eA (bO G ss ρ M) nx rt bk ct) rt bk ct:=by simp only[sU,oH,E_]
end
theorem kK{body:En->ag->aS}{it:It}{tg:List Nat}{ds:List D}{nx:En->ag->Prop}{rt:W->ag->Prop}{bk ct:En->ag->Prop}(I:Nat->En->ag->Prop)(hd:∀i ρ M,I i ρ M->i<=ds.length->itemAt M i it=some ds[i]?)(hs:∀i ρ M d,I i ρ M->ds[i]?=some d->∃dJ,bI tg d ρ=some dJ/\eA (body dJ M) (I (i+1)) rt nx (I (i+1)))(he:∀ρ M,I ds.length ρ M->nx ρ M):∀(f i:Nat)(ρ:En)(M:ag),I i ρ M->i+f=ds.length->eA (cY body it tg f i ρ M) nx rt bk ct
 | 0,i,ρ,M,h,e=>by
  unfold cY;have:i=ds.length:=∅;subst this;rw[hd _ _ _ h (ar _),CW (ar _)];dsimp only;rw[cT];exact he _ _ h
 | f+1,i,ρ,M,h,e=>by
  unfold cY;have hi:i<ds.length:=∅;rw[hd _ _ _ h (oY hi),eK hi];obtain⟨dJ,e1,e2⟩:=hs i ρ M ds[i] h (eK hi);dsimp only;rw[e1];dsimp only
  cases q:body dJ M with
  | nx JG M2=>rw[q,cT]at e2;exact kK I hd hs he f (i+1) JG M2 e2 ∅
  | ct JG M2=>rw[q,kJ]at e2;exact kK I hd hs he f (i+1) JG M2 e2 ∅
  | bk JG M2=>rw[q,kI]at e2;dsimp only;rw[cT];exact e2
  | rt w M2=>rw[q,g_]at e2;dsimp only;rw[g_];exact e2
  | er x M2=>rw[q,hU]at e2;dsimp only;rw[hU];exact e2
  | ae=>rw[q,dj]at e2;exact e2.elim
theorem qw{cond:En->ag->bF Bool}{elt:En->ag->bF D}{it:It}{tg:List Nat}{ds:List D}{P:W->ag->Prop}(I:Nat->En->ag->List D->Prop)(hd:∀i ρ M aI,I i ρ M aI->i<=ds.length->itemAt M i it=some ds[i]?)(hs:∀i ρ M aI d,I i ρ M aI->ds[i]?=some d->aI.length<sizeLine/\∃dJ,bI tg d ρ=some dJ/\@aL d9 _ (cond dJ M) λb M=>if b then @aL d9 _ (elt dJ M) λx M=>I (i+1) dJ M (aI++[x]) else I (i+1) dJ M aI)(he:∀ρ M aI,I ds.length ρ M aI->P (.lv aI) M):∀(f i:Nat)(ρ:En)(M:ag)(aI:List D),I i ρ M aI->i+f=ds.length->aL (bg cond elt it tg f i ρ M aI) P
 | 0,i,ρ,M,aI,h,e=>by
  unfold bg;have:i=ds.length:=∅;subst this;rw[hd _ _ _ _ h (ar _),CW (ar _)];dsimp only;rw[aJ];exact he _ _ _ h
 | f+1,i,ρ,M,aI,h,e=>by
  unfold bg;have hi:i<ds.length:=∅;rw[hd _ _ _ _ h (oY hi),eK hi];obtain⟨hl,dJ,e1,e2⟩:=hs i ρ M aI ds[i] h (eK hi);dsimp only;rw[e1];dsimp only;rw[aU hl,BM];refine @aL.imp d9 _ _ _ _ e2 λb M2 q=>?_
  cases b with
  | true =>
   rw[aU rfl]at q⊢;rw[BM];exact @aL.imp d9 _ _ _ _ q λx M3 q=>qw I hd hs he f (i+1) dJ M3 _ q ∅
  | false =>
   rw[aX (by simp)]at q⊢;exact qw I hd hs he f (i+1) dJ M2 _ q ∅
end
section
variable [er:Er]
noncomputable def dU{α:Type}(o:bF α)(P:α->ag->Prop):Prop:=match o with
 | .ok a M=>P a M
 | .err x M=>Er.er x M
 | .ae=>False
theorem JX{o:bF W}{P:W->ag->Prop}:aL (o.b0 .ok) P=@aL d9 _ o P:=by
 cases o with
 | ok a M=>rw[aJ (er:=d9)];exact aJ
 | err _ _=>rw[cZ (er:=d9)];exact aw
 | ae=>rw[aw (er:=d9)];exact aw
theorem bh{α:Type}{o:bF α}{P:α->ag->Prop}:aL o P=dU o P:=by
 cases o with
 | ok a M=>rw[aJ];rfl
 | err _ _=>rw[cZ];rfl
 | ae=>rw[aw];rfl
noncomputable def yU(x:W)(A B:Prop):Prop:=match x with
 | .d (.bl true)=>A
 | .d (.bl false)=>B
 | _=>False
noncomputable def bK(b:Bool)(A B:Prop):Prop:=match b with
 | true=>A
 | false=>B
theorem BN{b:Bool}{A B:Prop}:bK b A B=if b=true then A else B:=by cases b<;>simp[bK]
noncomputable def Fb(o:Option Bool)(P:Bool->Prop):Prop:=match o with
 | some r=>P r
 | none=>False
noncomputable def OL(o:Option (Option D))(P:D->Prop):Prop:=match o with
 | some (some d)=>P d
 | _=>False
noncomputable def Fc(o:Option En)(P:En->Prop):Prop:=match o with
 | some ρ=>P ρ
 | none=>False
noncomputable def OM(w:W)(P:Int->Prop):Prop:=match w with
 | .d (.int i)=>P i
 | _=>False
noncomputable def ON(w:W)(P:Str->Prop):Prop:=match w with
 | .d (.str i)=>P i
 | _=>False
def fB:D->Bool
 | .aK=>true
 | _=>false
theorem kL{i:Int}:SeqAt.shaped (.int i)=true:=by unfold SeqAt.shaped;rw[PyData.canLay0.eq_3,PyData.depth.eq_6];rfl
theorem OO{M:ag}{i j:Int}:bp .eq (.d (.int i)) (.d (.int j)) M=.ok (i==j) M:=by
 unfold bp;have h1:∀i,jw M (.d (.int i))=some (.int i):=λi=>by show cL M 30 (.int i)=_;unfold cL;rfl
 simp only[h1,kL,lb,dE,zw]
theorem OP{M:ag}{i j:Int}:bp .ne (.d (.int i)) (.d (.int j)) M=.ok (!(i==j)) M:=by
 unfold bp;have h1:∀i,jw M (.d (.int i))=some (.int i):=λi=>by show cL M 30 (.int i)=_;unfold cL;rfl
 simp only[h1,kL,lb,dE,zw]
def JY(op:CO)(x y:W)(M:ag)(P:W->ag->Prop):Prop:=match op,x,y with
 | .add,.d (.int i),.d (.int j)=>P (.d (.int (i+j))) M
 | .sub,.d (.int i),.d (.int j)=>P (.d (.int (i-j))) M
 | .mul,.d (.int i),.d (.int j)=>((-(2 ^ 64)<i/\i<2 ^ 64)\/(-(2 ^ 64)<j/\j<2 ^ 64))/\P (.d (.int (i*j))) M
 | .fdiv,.d (.int i),.d (.int j)=>(0<j/\j<1073741824)/\P (.d (.int (i / j))) M
 | .mod,.d (.int i),.d (.int j)=>0<j/\P (.d (.int (i % j))) M
 | .add,.d (.tup xs),.d (.tup ys)=>xs.length+ys.length<=sizeLine/\P (.d (.tup (xs++ys))) M
 | .add,.lv xs,.lv ys=>xs.length+ys.length<=sizeLine/\P (.lv (xs++ys)) M
 | .mul,.d (.tup xs),.d (.int k)=>(-(2 ^ 63)<=k/\k<2 ^ 63/\xs.length*k.toNat<=sizeLine)/\P (.d (.tup (List.replicate k.toNat xs).flatten)) M
 | op,x,y=>dU (pT op x y M) P
theorem mQ{α:Type}{c:Prop}[Decidable c]{a:α}{M:ag}{P:α->ag->Prop}:dU (if c then .ok a M else .ae) P=(c/\P a M):=by
 by_cases h:c
 ·rw[aU h];exact propext ⟨λq=>⟨h,q⟩,λq=>q.2⟩
 ·rw[aX h];exact propext ⟨λq=>q.elim,λq=>absurd q.1 h⟩
theorem Fd{op:CO}{x y:W}{M:ag}{P:W->ag->Prop}:dU (pT op x y M) P=JY op x y M P:=by
 rcases x with⟨_|_ | i | _ | xs | _|_⟩ | xs
 all_goals (first | (cases op<;>rfl) | skip)
 ·rcases y with⟨_|_ | j | _|_|_|_⟩|_<;>cases op<;>first | rfl | exact mQ
 ·rcases y with⟨_|_|_|_ | ys | _|_⟩|_<;>cases op<;>first | rfl | exact mQ
 ·rcases y with⟨_|_|_|_|_|_|_⟩ | ys<;>cases op<;>first | rfl | exact mQ
def qx(op:yE)(x y:W)(M:ag)(P:Bool->ag->Prop):Prop:=match op,x,y with
 | .eq,.d (.int i),.d (.int j)=>P (i==j) M
 | .ne,.d (.int i),.d (.int j)=>P (!(i==j)) M
 | .mq,.d d,_=>P (fB d) M
 | .gF,.d d,_=>P (!fB d) M
 | op,x,y=>dU (bp op x y M) P
theorem jK{op:yE}{x y:W}{M:ag}{P:Bool->ag->Prop}:dU (bp op x y M) P=qx op x y M P:=by
 cases op
 case eq=>rcases x with⟨_|_ | i | _|_|_|_⟩|_<;>first | rfl | (rcases y with⟨_|_ | j | _|_|_|_⟩|_<;>first | (rw[OO];rfl) | rfl)
 case ne=>rcases x with⟨_|_ | i | _|_|_|_⟩|_<;>first | rfl | (rcases y with⟨_|_ | j | _|_|_|_⟩|_<;>first | (rw[OP];rfl) | rfl)
 case mq=>rcases x with⟨_|_|_|_|_|_|_⟩|_<;>rfl
 case gF=>rcases x with⟨_|_|_|_|_|_|_⟩|_<;>rfl
 all_goals (first | rfl | (rcases x with⟨_|_|_|_|_|_|_⟩|_<;>rfl))
def yV(k:SK)(ws:List W)(M:ag)(P:It->ag->Prop):Prop:=match k,ws with
 | .fb,[.d (.int j)]=>(-(2 ^ 62)<=j/\j<2 ^ 62)/\P (.jV 0 j.toNat) M
 | .AF,[.d (.int i),.d (.int j)]=>(-(2 ^ 62)<=i/\i<2 ^ 62/\-(2 ^ 62)<=j/\j<2 ^ 62)/\P (.jV i (j-i).toNat) M
 | k,ws=>dU (jy k ws M) P
theorem wK{k:SK}{ws:List W}{M:ag}{P:It->ag->Prop}:dU (jy k ws M) P=yV k ws M P:=by
 unfold yV;split<;>first | rfl | exact mQ
def Fe(tp:Bool)(ws:List W)(M:ag)(P:W->ag->Prop):Prop:=match ux ws with
 | some (i,j)=>((-(2 ^ 62)<=i/\i<2 ^ 62/\-(2 ^ 62)<=j/\j<2 ^ 62)/\(j-i).toNat<=2 ^ 24)/\P (AG tp (NT i (j-i).toNat)) M
 | none=>False
theorem Ff{tp:Bool}{ws:List W}{M:ag}{P:W->ag->Prop}:dU (Eh tp ws M) P=Fe tp ws M P:=by
 unfold Eh Fe
 cases ux ws with
 | none=>rfl
 | some ij=>exact mQ
mutual
noncomputable def wE(G:a9):C->En->ag->(W->ag->Prop)->Prop
  | .eO i,ρ,M,P=>OL ρ[i]? λd=>P (.d d) M
  | .aN d,_,M,P=>P (.d d) M
  | .bin op a b,ρ,M,P=>wE G a ρ M λx M=>wE G b ρ M λy M=>JY op x y M P
  | .cmp op a b,ρ,M,P=>wE G a ρ M λx M=>wE G b ρ M λy M=>qx op x y M λr M=>P (.d (.bl r)) M
  | .chain o1 o2 a b c, ρ, M, P => wE G a ρ M fun x M => wE G b ρ M fun y M => qx o1 x y M fun r M =>
      bK r (wE G c ρ M λz M=>qx o2 y z M λr M=>P (.d (.bl r)) M) (P (.d (.bl false)) M)
  | .cw cs,ρ,M,P=>yW G cs ρ M P
  | .bU cs,ρ,M,P=>Ly G cs ρ M P
  | .neg a,ρ,M,P=>wE G a ρ M λx M=>yU x (P (.d (.bl false)) M) (P (.d (.bl true)) M)
  | .tup cs,ρ,M,P=>sW G cs ρ M λds M=>ds.length<=sizeLine/\P (.d (.tup ds)) M
  | .lst cs,ρ,M,P=>sW G cs ρ M λds M=>ds.length<=sizeLine/\P (.lv ds) M
  | .sub a b,ρ,M,P=>wE G a ρ M λx M=>wE G b ρ M λy M=>dU (dO x y M) P
  | .gH a lo hi,ρ,M,P=>wE G a ρ M λx M=>wO G lo ρ M λl M=>wO G hi ρ M λh M=>dU (pU x l h M) P
  | .fV a b,ρ,M,P=>wE G a ρ M λx M=>ON x λz=>wE G b ρ M λy M=>dU (kT (.d (.str z)) y M) P
  | .call f cs,ρ,M,P=>sW G cs ρ M λds M=>aL (G f ds M) P
  | .bi b cs,ρ,M,P=>yX G cs ρ M λws M=>dU (gI b ws M) P
  | .me m o cs,ρ,M,P=>wE G o ρ M λx M=>(dH M x).isSome=true/\sW G cs ρ M λds M=>dU (uy m x ds M) P
  | .vU ks cs,ρ,M,P=>sW G cs ρ M λds M=>ks.length=ds.length/\P (.d (.aC M.length)) (M++[.dK ((ks.map Sum.inr).zip ds)])
  | .jV tp cs,ρ,M,P=>yX G cs ρ M λws M=>Fe tp ws M P
  | .qT _ v,_,M,P=>P (.d (.int v)) M
  | .lx,_,M,P=>P (.d (.aC M.length)) (M++[.dT []])
  | .fW ng a b,ρ,M,P=>wE G a ρ M λx M=>wE G b ρ M λy M=>dU (iL ng x y M) P
  | .fc ng a,ρ,M,P=>wE G a ρ M λx M=>dU (vV ng x M) P
  | .xf a f,ρ,M,P=>wE G a ρ M λx M=>dU (Lk f x M) P
  | .ow a _ tb,ρ,M,P=>wE G a ρ M λx M=>dU (yG tb x M) P
  | .fX f cs,ρ,M,P=>sW G cs ρ M λds M=>@aL d9 _ (G f ds M) P
  | .comp k cU tg cond elt cz,ρ,M,P=>yX G cU ρ M λws M=>yV k ws M λit M=>aL (bg (λτ M=>bP G cond τ M) (λτ M=>(ev G elt τ M).bind own) it tg (dv M it) 0 (eI cz ρ) M []) P
noncomputable def wT(G:a9):eh->En->ag->(Bool->ag->Prop)->Prop
 | .cw ts,ρ,M,P=>JZ G ts ρ M P
 | .bU ts,ρ,M,P=>J0 G ts ρ M P
 | .neg a,ρ,M,P=>wT G a ρ M λr M=>P (!r) M
 | .val c,ρ,M,P=>wE G c ρ M λw M=>Fb (nE M w) λr=>P r M
noncomputable def yW(G:a9):List C->En->ag->(W->ag->Prop)->Prop
 | [],_,_,_=>False
 | c::cs,ρ,M,P=>match cs with
  | []=>wE G c ρ M P
  | _::_=>wE G c ρ M λx M=>yU x (yW G cs ρ M P) (P (.d (.bl false)) M)
noncomputable def Ly(G:a9):List C->En->ag->(W->ag->Prop)->Prop
 | [],_,_,_=>False
 | c::cs,ρ,M,P=>match cs with
  | []=>wE G c ρ M P
  | _::_=>wE G c ρ M λx M=>yU x (P (.d (.bl true)) M) (Ly G cs ρ M P)
noncomputable def JZ(G:a9):List eh->En->ag->(Bool->ag->Prop)->Prop
 | [],_,_,_=>False
 | c::cs,ρ,M,P=>match cs with
  | []=>wT G c ρ M P
  | _::_=>wT G c ρ M λr M=>bK r (JZ G cs ρ M P) (P false M)
noncomputable def J0(G:a9):List eh->En->ag->(Bool->ag->Prop)->Prop
 | [],_,_,_=>False
 | c::cs,ρ,M,P=>match cs with
  | []=>wT G c ρ M P
  | _::_=>wT G c ρ M λr M=>bK r (P true M) (J0 G cs ρ M P)
noncomputable def sW(G:a9):List C->En->ag->(List D->ag->Prop)->Prop
 | [],_,M,P=>P [] M
 | c::cs,ρ,M,P=>wE G c ρ M λw M=>dU (own w M) λd M=>sW G cs ρ M λds M=>P (d::ds) M
noncomputable def yX(G:a9):List C->En->ag->(List W->ag->Prop)->Prop
 | [],_,M,P=>P [] M
 | c::cs,ρ,M,P=>wE G c ρ M λw M=>yX G cs ρ M λws M=>P (w::ws) M
noncomputable def wO(G:a9):Option C->En->ag->(Option Int->ag->Prop)->Prop
 | none,_,M,P=>P none M
 | some c,ρ,M,P=>wE G c ρ M λw M=>OM w λi=>P (some i) M
end
section
variable {G:a9} {lo hi:Option C} {cond:Option eh}
theorem J1:wE G (.eO i) ρ M P=OL ρ[i]? λd=>P (.d d) M:=rfl
theorem J2:wE G (.bin op a b) ρ M P=wE G a ρ M λx M=>wE G b ρ M λy M=>JY op x y M P:=rfl
theorem J3:wE G (.cmp op a b) ρ M P=wE G a ρ M λx M=>wE G b ρ M λy M=>qx op x y M λr M=>P (.d (.bl r)) M:=rfl
theorem BO : wE G (.chain o1 o2 a b c) ρ M P = (wE G a ρ M fun x M => wE G b ρ M fun y M => qx o1 x y M fun r M =>
      bK r (wE G c ρ M λz M=>qx o2 y z M λr M=>P (.d (.bl r)) M) (P (.d (.bl false)) M)):=rfl
theorem J4:wE G (.neg a) ρ M P=wE G a ρ M λx M=>yU x (P (.d (.bl false)) M) (P (.d (.bl true)) M):=rfl
theorem J5:wE G (.sub a b) ρ M P=wE G a ρ M λx M=>wE G b ρ M λy M=>dU (dO x y M) P:=rfl
theorem J6:wE G (.gH a lo hi) ρ M P=wE G a ρ M λx M=>wO G lo ρ M λl M=>wO G hi ρ M λh M=>dU (pU x l h M) P:=rfl
theorem BP:wE G (.fV a b) ρ M P=wE G a ρ M λx M=>ON x λz=>wE G b ρ M λy M=>dU (kT (.d (.str z)) y M) P:=rfl
theorem OQ:wE G (.bi b cs) ρ M P=yX G cs ρ M λws M=>dU (gI b ws M) P:=rfl
theorem OR:wE G (.me m o cs) ρ M P=wE G o ρ M λx M=>(dH M x).isSome=true/\sW G cs ρ M λds M=>dU (uy m x ds M) P:=rfl
theorem J7:wE G (.jV tp cs) ρ M P=yX G cs ρ M λws M=>Fe tp ws M P:=rfl
theorem Fg:wE G (.fW ng a b) ρ M P=wE G a ρ M λx M=>wE G b ρ M λy M=>dU (iL ng x y M) P:=rfl
theorem Fh:wE G (.fc ng a) ρ M P=wE G a ρ M λx M=>dU (vV ng x M) P:=rfl
theorem OS{f:Str}:wE G (.xf a f) ρ M P=wE G a ρ M λx M=>dU (Lk f x M) P:=rfl
theorem J8{k:IX}{tb:List (Addr×Bool)}:wE G (.ow a k tb) ρ M P=wE G a ρ M λx M=>dU (yG tb x M) P:=rfl
theorem Fi:wE G (.comp k cU tg cond elt cz) ρ M P=yX G cU ρ M λws M=>yV k ws M λit M=>aL (bg (λτ M=>bP G cond τ M) (λτ M=>(ev G elt τ M).bind own) it tg (dv M it) 0 (eI cz ρ) M []) P:=rfl
theorem J9:wT G (.val c) ρ M P=wE G c ρ M λw M=>Fb (nE M w) λr=>P r M:=rfl
theorem BQ:yW G [] u0 u1 u2=False:=rfl
theorem oN : yW G (c :: cs) ρ M P = (match cs with
    | []=>wE G c ρ M P
    | _::_=>wE G c ρ M λx M=>yU x (yW G cs ρ M P) (P (.d (.bl false)) M)):=rfl
theorem Fj:Ly G [] u0 u1 u2=False:=rfl
theorem sX : Ly G (c :: cs) ρ M P = (match cs with
    | []=>wE G c ρ M P
    | _::_=>wE G c ρ M λx M=>yU x (P (.d (.bl true)) M) (Ly G cs ρ M P)):=rfl
theorem Fl:sW G [] u0 M P=P [] M:=rfl
theorem BR:sW G (c::cs) ρ M P=wE G c ρ M λw M=>dU (own w M) λd M=>sW G cs ρ M λds M=>P (d::ds) M:=rfl
theorem Fo:yX G [] u0 M P=P [] M:=rfl
theorem BS:yX G (c::cs) ρ M P=wE G c ρ M λw M=>yX G cs ρ M λws M=>P (w::ws) M:=rfl
theorem Fp:wO G none u0 M P=P none M:=rfl
theorem Fq:wO G (some c) ρ M P=wE G c ρ M λw M=>OM w λi=>P (some i) M:=rfl
end
def mR(G:a9)(o:Option eh)(ρ:En)(M:ag)(P:Bool->ag->Prop):Prop:=match o with
 | none=>P true M
 | some t=>wT G t ρ M P
mutual
theorem gJ{G:a9}:∀(c:C)(ρ:En)(M:ag)(P:W->ag->Prop),aL (ev G c ρ M) P=wE G c ρ M P
 | .eO i,ρ,M,P=>by
  simp only[AI,J1];rcases ρ[i]? with _|_ | d
  ·exact aw
  ·exact aw
  ·exact aJ
 | .aN d,ρ,M,P=>by rw[Oy];rfl
 | .bin op a b,ρ,M,P=>by rw[Oz,gJ a];simp only[gJ b,bh,J2,Fd]
 | .cmp op a b,ρ,M,P=>by rw[OA,gJ a];simp only[gJ b,bh,J3,jK]
 | .chain o1 o2 a b c,ρ,M,P=>by
  simp only[sj,az,BO];rw[gJ a]
  congr 1;funext x M
  rw[gJ b]
  congr 1;funext y M
  rw[bh,jK]
  congr 1;funext r M
  cases r with
  | true=>simp only[az,aJ,dE,gJ c];simp only[bh,jK];rfl
  | false=>simp[aJ,bK]
 | .cw cs,ρ,M,P=>by rw[Ej,w_and cs];rfl
 | .bU cs,ρ,M,P=>by rw[Ek,w_or cs];rfl
 | .neg a,ρ,M,P=>by
  simp only[IV,az,J4];rw[gJ a]
  congr 1;funext x M
  rcases x with⟨_ | b | _|_|_|_|_⟩|_
  ·exact aw
  ·cases b<;>exact aJ
  all_goals exact aw
 | .tup cs,ρ,M,P=>by rw[OB,qy cs];rfl
 | .lst cs,ρ,M,P=>by rw[OC,qy cs];rfl
 | .sub a b,ρ,M,P=>by rw[k_sub,gJ a];simp only[gJ b,bh,J5]
 | .gH a lo hi,ρ,M,P=>by rw[OD,gJ a];simp only[Vq lo,Vq hi,bh,J6]
 | .fV a b,ρ,M,P=>by
  simp only[so,az,BP];rw[gJ a]
  congr 1;funext x M
  rcases x with⟨_|_|_ | z | _|_|_⟩|_
  ·exact aw
  ·exact aw
  ·exact aw
  ·simp only[az,gJ b];simp only[bh];rfl
  all_goals exact aw
 | .call f cs,ρ,M,P=>by rw[JM,qy cs];rfl
 | .bi b cs,ρ,M,P=>by rw[Tt,BU cs];simp only[bh,OQ]
 | .me m o cs,ρ,M,P=>by rw[Tu,gJ o];simp only[qy cs,bh,OR]
 | .vU ks cs,ρ,M,P=>by rw[OE,qy cs];rfl
 | .jV tp cs,ρ,M,P=>by simp only[IZ,az,J7];rw[BU cs];simp only[bh,Ff]
 | .qT x v,ρ,M,P=>by rw[I0];exact aJ
 | .lx,ρ,M,P=>by rw[El];exact aJ
 | .fW ng a b,ρ,M,P=>by simp only[vX,az,Fg];rw[gJ a];simp only[gJ b,bh]
 | .fc ng a,ρ,M,P=>by simp only[vY,az,Fh];rw[gJ a];simp only[bh]
 | .xf a f,ρ,M,P=>by simp only[NX,az,OS];rw[gJ a];simp only[bh]
 | .ow a k tb,ρ,M,P=>by simp only[I_,az,J8];rw[gJ a];simp only[bh]
 | .fX f cs,ρ,M,P=>by
  rw[su,az,qy cs];show sW G cs ρ M _=sW G cs ρ M _
  congr 1;funext ds M
  exact JX
 | .comp k cU tg cond elt cz,ρ,M,P=>by rw[JN,BU cU];simp only[bh,Fi,wK]
theorem J_{G:a9}:∀(c:eh)(ρ:En)(M:ag)(P:Bool->ag->Prop),aL (dP G c ρ M) P=wT G c ρ M P
 | .cw cs,ρ,M,P=>by rw[JS,w_all cs];rfl
 | .bU cs,ρ,M,P=>by rw[JT,w_any cs];rfl
 | .neg a,ρ,M,P=>by rw[OG,J_ a];rfl
 | .val c,ρ,M,P=>by
  rw[OF,gJ c];simp only[J9]
  congr 1;funext w M
  cases nE M w with
  | none=>simp[Fb]
  | some r=>simp[Fb]
theorem w_and{G:a9}:∀(cs:List C)(ρ:En)(M:ag)(P:W->ag->Prop),aL (iM G cs ρ M) P=yW G cs ρ M P
 | [],ρ,M,P=>by rw[kj];exact aw
 | [c],ρ,M,P=>by simp only[kj,ja,BQ,oN,az,aJ,gJ c]
 | c::b::cs,ρ,M,P=>by
  rw[ja,oN,az,gJ c]
  congr 1;funext x M
  rw[<- w_and (b::cs)];rcases x with⟨_ | b | _|_|_|_|_⟩|_
  ·exact aw
  ·cases b with
   | true=>rfl
   | false=>exact aJ
  all_goals exact aw
theorem w_or{G:a9}:∀(cs:List C)(ρ:En)(M:ag)(P:W->ag->Prop),aL (nG G cs ρ M) P=Ly G cs ρ M P
 | [],ρ,M,P=>by rw[mx];exact aw
 | [c],ρ,M,P=>by simp only[mx,km,Fj,sX,az,aJ,gJ c]
 | c::b::cs,ρ,M,P=>by
  rw[km,sX,az,gJ c]
  congr 1;funext x M
  rw[<- w_or (b::cs)];rcases x with⟨_ | b | _|_|_|_|_⟩|_
  ·exact aw
  ·cases b with
   | true=>exact aJ
   | false=>rfl
  all_goals exact aw
theorem w_all{G:a9}:∀(cs:List eh)(ρ:En)(M:ag)(P:Bool->ag->Prop),aL (fw G cs ρ M) P=JZ G cs ρ M P
 | [],ρ,M,P=>by rw[ko];exact aw
 | [c],ρ,M,P=>by rw[JO,J_ c];rfl
 | c::b::cs,ρ,M,P=>by rw[JQ,J_ c];simp only[w_all (b::cs),<- BN];rfl
theorem w_any{G:a9}:∀(cs:List eh)(ρ:En)(M:ag)(P:Bool->ag->Prop),aL (fy G cs ρ M) P=J0 G cs ρ M P
 | [],ρ,M,P=>by rw[kr];exact aw
 | [c],ρ,M,P=>by rw[JP,J_ c];rfl
 | c::b::cs,ρ,M,P=>by rw[JR,J_ c];simp only[w_any (b::cs),<- BN];rfl
theorem qy{G:a9}:∀(cs:List C)(ρ:En)(M:ag)(P:List D->ag->Prop),aL (a8 G cs ρ M) P=sW G cs ρ M P
 | [],ρ,M,P=>by rw[Tv];rfl
 | c::cs,ρ,M,P=>by rw[Tw,gJ c];simp only[qy cs,bh,Fl,BR]
theorem BU{G:a9}:∀(cs:List C)(ρ:En)(M:ag)(P:List W->ag->Prop),aL (cV G cs ρ M) P=yX G cs ρ M P
 | [],ρ,M,P=>by rw[TC];rfl
 | c::cs,ρ,M,P=>by rw[TH,gJ c];simp only[BU cs,bh,Fo,BS]
theorem Vq{G:a9}:∀(o:Option C)(ρ:En)(M:ag)(P:Option Int->ag->Prop),aL (qU G o ρ M) P=wO G o ρ M P
 | none,ρ,M,P=>by rw[Tr];rfl
 | some c,ρ,M,P=>by
  simp only[my,mz,az,Fp,Fq];rw[gJ c]
  congr 1;funext x M
  rcases x with⟨_|_ | z | _|_|_|_⟩|_
  ·exact aw
  ·exact aw
  ·exact aJ
  all_goals exact aw
end
theorem w_cond{G:a9}{o:Option eh}{ρ:En}{M:ag}{P:Bool->ag->Prop}:aL (bP G o ρ M) P=mR G o ρ M P:=by
 cases o with
 | none=>exact aJ
 | some t=>exact J_ t ρ M P
theorem sY{G:a9}{c:C}{ρ:En}{M:ag}{P:D->ag->Prop}:aL ((ev G c ρ M).bind own) P=wE G c ρ M λw M=>dU (own w M) P:=by
 rw[az,gJ];simp only[bh]
mutual
noncomputable def wS(G:a9):S->En->ag->(En->ag->Prop)->(W->ag->Prop)->(En->ag->Prop)->(En->ag->Prop)->Prop
 | .asg tg c,ρ,M,nx,_,_,_=>wE G c ρ M λw M=>dU (own w M) λd M=>Fc (bI tg d ρ) λρ=>nx ρ M
 | .kG i c,ρ,M,nx,_,_,_=>wE G c ρ M λw M=>dU (own w M) λd M=>nx (ρ.set i (some d)) M
 | .put o i v,ρ,M,nx,_,_,_=>wE G v ρ M λw M=>dU (own w M) λd M=>wE G o ρ M λx M=>wE G i ρ M λy M=>dU (jz x y d M) λ_ M=>nx ρ M
 | .dput o i v,ρ,M,nx,_,_,_=>wE G v ρ M λw M=>dU (own w M) λd M=>wE G o ρ M λx M=>wE G i ρ M λy M=>dU (gV x y d M) λ_ M=>nx ρ M
 | .par i j a b,ρ,M,nx,_,_,_=>wE G a ρ M λw M=>dU (own w M) λx M=>wE G b ρ M λw M=>dU (own w M) λy M=>nx ((ρ.set i (some x)).set j (some y)) M
 | .expr c,ρ,M,nx,_,_,_=>wE G c ρ M λ_ M=>nx ρ M
 | .ret c,ρ,M,_,rt,_,_=>wE G c ρ M rt
 | .yR,_,M,_,rt,_,_=>rt (.d .aK) M
 | .iff t a b,ρ,M,nx,rt,bk,ct=>wT G t ρ M λr M=>bK r (eF G a ρ M nx rt bk ct) (eF G b ρ M nx rt bk ct)
 | .dS tg k cU b,ρ,M,nx,rt,bk,ct=>yX G cU ρ M λws M=>yV k ws M λit M=>eA (cY (λρ M=>bO G b ρ M) it tg (dv M it) 0 ρ M) nx rt bk ct
 | .GG n t b,ρ,M,nx,rt,bk,ct=>eA (yT (λρ M=>dP G t ρ M) (λρ M=>bO G b ρ M) n ρ M) nx rt bk ct
 | .yS a f c,ρ,M,_,_,_,_=>sW G c ρ M λds M=>Er.er ⟨a,f.zip ds⟩ M
 | .kH b cb mt j h,ρ,M,nx,rt,bk,ct=>eA (gw G (.kH b cb mt j h) ρ M) nx rt bk ct
 | .never,_,_,_,_,_,_=>False
 | .pass,ρ,M,nx,_,_,_=>nx ρ M
 | .brk,ρ,M,_,_,bk,_=>bk ρ M
 | .cont,ρ,M,_,_,_,ct=>ct ρ M
noncomputable def eF(G:a9):List S->En->ag->(En->ag->Prop)->(W->ag->Prop)->(En->ag->Prop)->(En->ag->Prop)->Prop
 | [],ρ,M,nx,_,_,_=>nx ρ M
 | s::ss,ρ,M,nx,rt,bk,ct=>wS G s ρ M (λρ M=>eF G ss ρ M nx rt bk ct) rt bk ct
end
section
variable {G:a9} {lo hi:Option C} {cond:Option eh} {nx bk ct:En->ag->Prop} {rt:W->ag->Prop}
theorem Ka:wS G (.asg tg c) ρ M nx u0 u1 u2=wE G c ρ M λw M=>dU (own w M) λd M=>Fc (bI tg d ρ) λρ=>nx ρ M:=rfl
theorem Ft:wS G (.kG i c) ρ M nx u0 u1 u2=wE G c ρ M λw M=>dU (own w M) λd M=>nx (ρ.set i (some d)) M:=rfl
theorem Kb:wS G (.put o i v) ρ M nx u0 u1 u2=wE G v ρ M λw M=>dU (own w M) λd M=>wE G o ρ M λx M=>wE G i ρ M λy M=>dU (jz x y d M) λ_ M=>nx ρ M:=rfl
theorem Fv:wS G (.dput o i v) ρ M nx u0 u1 u2=wE G v ρ M λw M=>dU (own w M) λd M=>wE G o ρ M λx M=>wE G i ρ M λy M=>dU (gV x y d M) λ_ M=>nx ρ M:=rfl
theorem Kc:wS G (.par i j a b) ρ M nx u0 u1 u2=wE G a ρ M λw M=>dU (own w M) λx M=>wE G b ρ M λw M=>dU (own w M) λy M=>nx ((ρ.set i (some x)).set j (some y)) M:=rfl
theorem Kd:wS G (.iff t a b) ρ M nx rt bk ct=wT G t ρ M λr M=>bK r (eF G a ρ M nx rt bk ct) (eF G b ρ M nx rt bk ct):=rfl
theorem Fw:wS G (.dS tg k cU b) ρ M nx rt bk ct=yX G cU ρ M λws M=>yV k ws M λit M=>eA (cY (λρ M=>bO G b ρ M) it tg (dv M it) 0 ρ M) nx rt bk ct:=rfl
theorem Ke:wS G (.GG n t b) ρ M nx rt bk ct=eA (yT (λρ M=>dP G t ρ M) (λρ M=>bO G b ρ M) n ρ M) nx rt bk ct:=rfl
theorem Kg{f:List Str}{c:List C}:wS G (.yS a f c) ρ M u0 u1 u2 u3=sW G c ρ M λds M=>Er.er ⟨a,f.zip ds⟩ M:=rfl
end
mutual
theorem Xy{G:a9}:∀(s:S)(ρ:En)(M:ag)(nx:En->ag->Prop)(rt:W->ag->Prop)(bk ct:En->ag->Prop),eA (gw G s ρ M) nx rt bk ct=wS G s ρ M nx rt bk ct
 | .asg tg c,ρ,M,nx,rt,bk,ct=>by
  simp only[wC,dZ,Ka];rw[sY]
  congr 1;funext w M
  congr 1;funext d M
  cases bI tg d ρ with
  | none=>exact dj
  | some ρ=>exact cT
 | .kG i c,ρ,M,nx,rt,bk,ct=>by rw[JU,gJ c];simp only[bh,Ft]
 | .put o i v,ρ,M,nx,rt,bk,ct=>by rw[OH,gJ v];simp only[gJ o,gJ i,bh,Kb]
 | .dput o i v,ρ,M,nx,rt,bk,ct=>by
  simp only[sQ,dZ,Fv];rw[sY];simp only[gJ o,gJ i,bh,cT]
 | .par i j a b,ρ,M,nx,rt,bk,ct=>by
  simp only[EY,dZ];rw[qy];show wE G a ρ M (λw M=>dU (own w M) λx M=>wE G b ρ M λw M=>dU (own w M) λy M=>eA (.nx ((ρ.set i (some x)).set j (some y)) M) nx rt bk ct)=_;simp only[cT,Kc]
 | .expr c,ρ,M,nx,rt,bk,ct=>by rw[JV,gJ c];rfl
 | .ret c,ρ,M,nx,rt,bk,ct=>by rw[OI,gJ c];rfl
 | .yR,ρ,M,nx,rt,bk,ct=>g_
 | .iff t a b,ρ,M,nx,rt,bk,ct=>by rw[TJ,J_ t];simp only[qz a,qz b,Kd,BN]
 | .dS tg k cU b,ρ,M,nx,rt,bk,ct=>by rw[OJ,BU cU];simp only[bh,Fw,wK]
 | .GG n t b,ρ,M,nx,rt,bk,ct=>by simp only[EZ,Ke]
 | .yS a f c,ρ,M,nx,rt,bk,ct=>by
  simp only[wH,dZ];rw[qy];simp only[hU,Kg]
 | .kH b cb mt j h,ρ,M,nx,rt,bk,ct=>rfl
 | .never,ρ,M,nx,rt,bk,ct=>dj
 | .pass,ρ,M,nx,rt,bk,ct=>cT
 | .brk,ρ,M,nx,rt,bk,ct=>kI
 | .cont,ρ,M,nx,rt,bk,ct=>kJ
theorem qz{G:a9}:∀(ss:List S)(ρ:En)(M:ag)(nx:En->ag->Prop)(rt:W->ag->Prop)(bk ct:En->ag->Prop),eA (bO G ss ρ M) nx rt bk ct=eF G ss ρ M nx rt bk ct
 | [],ρ,M,nx,rt,bk,ct=>OK
 | s::ss,ρ,M,nx,rt,bk,ct=>by rw[JW,Xy s];simp only[qz ss];rfl
end
theorem bz{G:a9}{n:Nat}{b:List S}{ds:List D}{M:ag}{P:W->ag->Prop}:aL (aj G n b ds M) P=eF G b (gx n ds) M (λ_ M=>P (.d .aK) M) P (λ_ _=>False) (λ_ _=>False):=by
 rw[Fa,qz]
end
section
variable {K:PySem.W.Frag} {h:Heap} {mg:Str->Option Value}
noncomputable def oO(K:PySem.W.Frag)(x:Str):Option Addr:=match PySem.W.nsIn K mainGlobals x with
 | some (some (.ref c))=>some c
 | _=>none
def mS(K:PySem.W.Frag):List Str->Option (List Addr)
 | []=>some []
 | x::xs=>match oO K x,mS K xs with
  | some c,some cs=>some (c::cs)
  | _,_=>none
theorem uO(X:K.In h)(G:h.Ns mainGlobals mg){x:Str}{c:Addr}(e:oO K x=some c):mg x=some (.ref c):=by
 unfold oO at e;split at e
 ·rename_i q;cases e;exact rg X G q
 ·cases e
theorem wL(X:K.In h)(G:h.Ns mainGlobals mg):∀{xs:List Str}{cs:List Addr},mS K xs=some cs->xs.map mg=cs.map (λc=>some (.ref c))
 | [],cs,e=>by cases e;rfl
 | x::xs,cs,e=>by
  unfold mS at e;split at e
  ·rename_i c Lm e1 e2
   cases e;rw[iC,iC,uO X G e1,wL X G e2]
  ·cases e
noncomputable def jL(o:Option Bool)(b:Bool):Bool:=match o with
 | some c=>c==b
 | none=>false
theorem hZ{o:Option Bool}{b:Bool}(e:jL o b=true):o=some b:=by
 cases o with
 | none=>cases e
 | some c=>rw[eq_of_beq (show(c==b)=true from e)]
def OT(K:PySem.W.Frag)(C:Addr)(r:Bool):IX->Bool
 | .one x=>match oO K x with
  | some c=>jL (PySem.W.kitOne K (.ref C) (.ref c)) r
  | none=>false
 | .ve=>(match PySem.W.nsIn K mainGlobals "ValueError" with | some none=>true | _=>false)&&jL (PySem.W.kitOne K (.ref C) (.type "ValueError")) r
 | .many xs=>match mS K xs with
  | some cs=>jL (PySem.W.kitAny K (.ref C) (cs.map Value.ref)) r
  | none=>false
def Xz(K:PySem.W.Frag)(l:List (IX×Addr×Bool)):Bool:=l.all λp=>OT K p.2.1 p.2.2 p.1
theorem OU(X:K.In h)(G:h.Ns mainGlobals mg){l:List (IX×Addr×Bool)}(z:Xz K l=true):∀k C r,(k,C,r)∈l->sE K mg k C r:=by
 intro k C r hm;have q:OT K C r k=true:=gM.mp z _ hm
 cases k with
 | one x =>
  have q:(match oO K x with
   | some c=>jL (PySem.W.kitOne K (.ref C) (.ref c)) r
   | none=>false)=true:=q
  split at q
  ·rename_i c e;exact⟨c,uO X G e,hZ q⟩
  ·cases q
 | ve =>
  have q:((match PySem.W.nsIn K mainGlobals "ValueError" with | some none=>true | _=>false)&&jL (PySem.W.kitOne K (.ref C) (.type "ValueError")) r)=true:=q
  replace q:=(av _ _).mp q
  refine⟨?_,hZ q.2⟩;have q1:=q.1;split at q1
  ·rename_i e;exact PySem.W.mg_none_of X G e
  ·cases q1
 | many xs =>
  have q:(match mS K xs with
   | some cs=>jL (PySem.W.kitAny K (.ref C) (cs.map Value.ref)) r
   | none=>false)=true:=q
  split at q
  ·rename_i cs e;exact⟨cs,wL X G e,hZ q⟩
  ·cases q
def XA(K:PySem.W.Frag)(l:List (Str×Addr×List Str)):Bool:=l.all λp=>match oO K p.1 with
 | some B=>jL (PySem.W.kitCls K (.ref p.2.1) (.ref B)) true&&jL (PySem.W.kitCls K (.ref B) (.type "BaseException")) true
 | none=>false
theorem OV(X:K.In h)(G:h.Ns mainGlobals mg){l:List (Str×Addr×List Str)}(z:XA K l=true)(hx:∀cb C fs,(cb,C,fs)∈l->∃D fI,pR K C D fI fs):∀cb C fs,(cb,C,fs)∈l->wb K mg cb C fs:=by
 intro cb C fs hm;have q:=gM.mp z _ hm;dsimp only at q;obtain⟨D,fI,xi⟩:=hx cb C fs hm;split at q
 ·rename_i B e
  replace q:=(av _ _).mp q
  exact⟨B,D,fI,uO X G e,hZ q.1,hZ q.2,xi⟩
 ·cases q
end
theorem pR.of{K:PySem.W.Frag}{C Da fI N:Addr}{f:List Str}{nm q:Str}{bs sub:List Value}{sn:List Str}{ab:Bool}{nF:Option Bool}{dd de:Option Addr}{k0 k1 k2 k3 k5:Option Value}{c0:Value}{cd:ClassData}{sl:Array (Option Value)} (l1:K.lookup C=some (excClassObj nm q C N bs (.ref Da::VE) true sn sub ab nF dd k0 k1 k2 k3 k5 "ValueError.__new__")) (o1:PySem.W.nsOkIn K N=true) (i1:PySem.W.nsIn K N "__init__" = some (some (.ref fI))) (n1:((f++eC).all λn=>match PySem.W.nsIn K N n with | some none=>true | _=>false)=true) (l2:K.lookup Da=some {cls:=c0,dict:=de,data:=.cls cd,slots:=sl}) (o2:PySem.W.nsOkIn K cd.ns=true) (n2:((("__init__" : Str)::(f++eC)).all λn=>match PySem.W.nsIn K cd.ns n with | some none=>true | _=>false)=true) (ve:∀g∈f,typeLookup (.type "ValueError") g=pure none):pR K C Da fI f:=by
 have al:∀{M:Addr}{l:List Str},(l.all λn=>match PySem.W.nsIn K M n with | some none=>true | _=>false)=true->∀n∈l,PySem.W.nsIn K M n=some none:=λ{M l} z n hn=>by
  have q:=gM.mp z n hn;split at q
  ·assumption
  ·cases q
 exact⟨⟨nm,q,N,bs,sn,sub,ab,nF,dd,k0,k1,k2,k3,k5,l1,o1,i1,al n1⟩,⟨c0,de,cd,sl,l2,o2,al n2⟩,ve⟩
theorem OW{f:List Str} (h:f.all (λg=>match fastLookup "ValueError" g with | some none=>true | _=>false)=true):∀g∈f,typeLookup (.type "ValueError") g=pure none:=λg hg=>by
 have q:=gM.mp h g hg;rw[typeLookup_type,builtinLookup_eq_fast];split at q
 ·rename_i e;rw[e]
 ·cases q
section
variable [er:Er]
abbrev Fn:=List D->ag->bF W
noncomputable def Fr(w:Nat)(M M':ag):Prop:=M.length<=M'.length/\∀n,n<M.length->n≠w->M'[n]?=M[n]?
abbrev Ex(M M':ag):Prop:=Fr M.length M M'
theorem bA{M:ag}{n:Nat}{o:MO}(h:M[n]?=some o):n<M.length:=(d4.mp h).1
theorem cR{M X:ag}{n:Nat}{o:MO}(h:M[n]?=some o):(M++X)[n]?=some o:=by rw[gL (bA h)];exact h
theorem aP{M:ag}{o:MO}:(M++[o])[M.length]?=some o:=by simp
theorem qA{M:ag}{n m:Nat}{o u:MO}(h:M[n]?=some o)(hn:n≠m):(M.set m u)[n]?=some o:=by rw[lL (dq hn)];exact h
theorem d_{M:ag}{n:Nat}{o u:MO}(h:M[n]?=some o):(M.set n u)[n]?=some u:=tW (bA h)
theorem Fr.refl(w:Nat)(M:ag):Fr w M M:=⟨ar _,λ_ _ _=>rfl⟩
theorem Fr.trans{w:Nat}{M M1 M2:ag}(a:Fr w M M1)(b:Fr w M1 M2):Fr w M M2:=⟨bJ a.1 b.1,λn h k=>(b.2 n (ft h a.1) k).trans (a.2 n h k)⟩
theorem Fr.app{w:Nat}{M M1 X:ag}(a:Fr w M M1):Fr w M (M1++X):=⟨by have:=a.1;simp only[bY];omega,λn h k=>by rw[gL (ft h a.1)];exact a.2 n h k⟩
theorem Fr.set{w n:Nat}{M M1:ag}{o:MO}(a:Fr w M M1)(h:M.length<=n):Fr w M (M1.set n o):=⟨by rw[rf];exact a.1,λm hm k=>by rw[lL ∅];exact a.2 m hm k⟩
theorem Fr.TK{w:Nat}{M M1:ag}{o:MO}(a:Fr w M M1):Fr w M (M1.set w o):=⟨by rw[rf];exact a.1,λm hm k=>by rw[lL (dq k)];exact a.2 m hm k⟩
theorem Fr.get{w n:Nat}{M M1:ag}{o:MO}(a:Fr w M M1)(h:M[n]?=some o)(k:n≠w):M1[n]?=some o:=(a.2 n (bA h) k).trans h
theorem Fr.back{w v:Nat}{M M1 M2:ag}(a:Fr w M M1)(b:Fr v M1 M2)(h:M.length<=v\/v=w):Fr w M M2:=⟨bJ a.1 b.1,λn hn k=>(b.2 n (ft hn a.1) ∅).trans (a.2 n hn k)⟩
theorem Ex.refl(M:ag):Ex M M:=Fr.refl _ M
theorem Ex.get{n:Nat}{M M1:ag}{o:MO}(a:Ex M M1)(h:M[n]?=some o):M1[n]?=some o:=Fr.get a h (eW (bA h))
theorem Ex.trans{M M1 M2:ag}(a:Ex M M1)(b:Ex M1 M2):Ex M M2:=Fr.back a b (.inl a.1)
theorem Fr.ex{w:Nat}{M M1 M2:ag}(a:Fr w M M1)(b:Ex M1 M2)(h:w<M.length\/M.length<=w):Fr w M M2:=Fr.back a b (.inl a.1)
section
variable {M:ag} {n:Nat} {ds:List D} {i:Int} {x:D}
theorem wM(hi:0<=i)(h:ds[i.toNat]?=some x):Qi ds i=some x:=by
 have hl:=(d4.mp h).1;unfold Qi nq DQ;rw[aU hi,aU ∅];exact h
theorem c_(hM:M[n]?=some (.lst ds))(hi:0<=i)(h:ds[i.toNat]?=some x):dO (.d (.aC n)) (.d (.int i)) M=.ok (.d x) M:=by
 unfold dO bD;simp only[hM,wM hi h]
theorem qB(hi:0<=i)(h:ds[i.toNat]?=some x):dO (.lv ds) (.d (.int i)) M=.ok (.d x) M:=by
 unfold dO bD;simp only[wM hi h]
theorem qC(hi:0<=i)(h:ds[i.toNat]?=some x):dO (.d (.tup ds)) (.d (.int i)) M=.ok (.d x) M:=by
 unfold dO bD;simp only[wM hi h]
theorem BV{m:Nat}(h:ds[m]?=some x):dO (.d (.tup ds)) (.d (.int m)) M=.ok (.d x) M:=qC (Int.natCast_nonneg m) (by rw[oV];exact h)
theorem Kh(hi:0<=i)(h:ds[i.toNat]?=some x):dO (.d (.ls ds)) (.d (.int i)) M=.ok (.d x) M:=by
 unfold dO bD;simp only[wM hi h]
theorem h_(hM:M[n]?=some (.lst ds))(hl:ds.length<sizeLine):uy .append (.d (.aC n)) [x] M=.ok (.d .aK) (M.set n (.lst (ds++[x]))):=by
 unfold uy;simp only[hM,aU hl]
theorem BW(hM:M[n]?=some (.lst ds))(hl:ds.length<sizeLine)(h0:0<=i)(h1:i<=ds.length):uy .insert (.d (.aC n)) [.int i,x] M=.ok (.d .aK) (M.set n (.lst (ds.take i.toNat++x::ds.drop i.toNat))):=by
 unfold uy;simp only[hM];rw[aU ⟨hl,h0,h1⟩]
theorem ia(hM:M[n]?=some (.lst ds)):(dH M (.d (.aC n))).isSome=true:=by unfold dH;simp only[hM];rfl
theorem dA(hM:M[n]?=some (.lst ds)):gI .len [.d (.aC n)] M=.ok (.d (.int ds.length)) M:=by unfold gI bD;simp only[hM]
theorem eV(hM:M[n]?=some (.lst ds)):gI .tuple1 [.d (.aC n)] M=.ok (.d (.tup ds)) M:=by unfold gI bD;simp only[hM]
theorem Ki(hM:M[n]?=some (.lst ds)):jy .seq [.d (.aC n)] M=.ok (.at n) M:=by
 unfold jy bD;simp only[hM];rfl
theorem TL(hM:M[n]?=some (.lst ds)):dv M (.at n)=ds.length:=by unfold dv;simp only[hM]
end
theorem af{n:Nat}(h:n<=1000):n<=sizeLine:=bJ h (by decide)
theorem cy{n:Nat}(h:n<=1000):n<sizeLine:=Nat.lt_of_le_of_lt h (by decide)
theorem cS{α:Type}{l:List α}{k:Nat}{x:α}(h:l[k]?=some x):l.take (k+1)=l.take k++[x]:=by
 rw[List.take_add_one,h];rfl
theorem kM{x:Str}(h:PyData.strOk x=true):SeqAt.shaped (.str x)=true:=by
 unfold SeqAt.shaped;rw[PyData.canLay0.eq_4,h,PyData.depth.eq_7];rfl
theorem lF{x y:Str}:PyData.eqv (.str x) (.str y)=(x==y):=PyData.eqv.eq_6 x y
theorem qD{M:ag}{x:Str}:jw M (.d (.str x))=some (.str x):=by show cL M 30 (.str x)=_;unfold cL;rfl
theorem OX{M:ag}{x y:Str}(hx:PyData.strOk x=true)(hy:PyData.strOk y=true):bp .eq (.d (.str x)) (.d (.str y)) M=.ok (x==y) M:=by
 unfold bp;simp only[qD,kM hx,kM hy,lb,dE,lF]
theorem OY{M:ag}{x y:Str}(hx:PyData.strOk x=true)(hy:PyData.strOk y=true):bp .ne (.d (.str x)) (.d (.str y)) M=.ok (!(x==y)) M:=by
 unfold bp;simp only[qD,kM hx,kM hy,lb,dE,lF]
section
variable {G:a9} {b:List S} {tg:List Nat} {ρ:En} {M:ag} {nx:En->ag->Prop} {rt:W->ag->Prop} {bk ct:En->ag->Prop}
theorem jM{lo:Int}{n:Nat}(I:Nat->En->ag->Prop)(h0:I 0 ρ M)(hs:∀i ρ M,i<n->I i ρ M->Fc (bI tg (.int (lo+i)) ρ) λρ=>eF G b ρ M (I (i+1)) rt nx (I (i+1)))(he:∀ρ M,I n ρ M->nx ρ M):eA (cY (λρ M=>bO G b ρ M) (.jV lo n) tg n 0 ρ M) nx rt bk ct:=by
 have bf:((List.range n).map λi=>D.int (lo+(i:Nat))).length=n:=by simp
 refine kK (ds:=(List.range n).map λi=>D.int (lo+(i:Nat))) I (λi ρ M _ hi=>?_) (λi ρ M d h e=>?_) (λρ M h=>he ρ M (by rw[bf]at h;exact h)) n 0 ρ M h0 (by rw[bf];omega)
 ·rw[bf]at hi;show some (if i<n then some (D.int (lo+i)) else none)=_;by_cases q:i<n
  ·rw[aU q];simp[q]
  ·rw[aX q,CW (by rw[bf];omega)]
 ·have hi:i<n:=by have:=(d4.mp e).1;rw[bf]at this;exact this
  have:d=.int (lo+i):=by rw[ji,List.getElem?_range hi]at e;exact(cu e).symm
  subst this;have q:=hs i ρ M hi h
  cases e2:bI tg (.int (lo+i)) ρ with
  | none=>rw[e2]at q;exact q.elim
  | some dJ=>rw[e2]at q;exact⟨dJ,rfl,by rw[qz];exact q⟩
theorem qE{ds:List D}(I:Nat->En->ag->Prop)(h0:I 0 ρ M)(hs:∀i ρ M d,ds[i]?=some d->I i ρ M->Fc (bI tg d ρ) λρ=>eF G b ρ M (I (i+1)) rt nx (I (i+1)))(he:∀ρ M,I ds.length ρ M->nx ρ M):eA (cY (λρ M=>bO G b ρ M) (.items ds) tg ds.length 0 ρ M) nx rt bk ct :=
 kK (ds:=ds) I (λi ρ M _ _=>rfl) (λi ρ M d h e=>by
  have q:=hs i ρ M d e h
  cases e2:bI tg d ρ with
  | none=>rw[e2]at q;exact q.elim
  | some dJ=>rw[e2]at q;exact⟨dJ,rfl,by rw[qz];exact q⟩) he ds.length 0 ρ M h0 ∅
theorem TM{n:Nat}{ds:List D}(I:Nat->En->ag->Prop)(hM:∀i ρ M,I i ρ M->M[n]?=some (.lst ds))(h0:I 0 ρ M)(hs:∀i ρ M d,ds[i]?=some d->I i ρ M->Fc (bI tg d ρ) λρ=>eF G b ρ M (I (i+1)) rt nx (I (i+1)))(he:∀ρ M,I ds.length ρ M->nx ρ M):eA (cY (λρ M=>bO G b ρ M) (.at n) tg (dv M (.at n)) 0 ρ M) nx rt bk ct:=by
 rw[TL (hM 0 ρ M h0)]
 exact kK (ds:=ds) I (λi ρ M h _=>by unfold itemAt;simp only[hM i ρ M h]) (λi ρ M d h e=>by
  have q:=hs i ρ M d e h
  cases e2:bI tg d ρ with
  | none=>rw[e2]at q;exact q.elim
  | some dJ=>rw[e2]at q;exact⟨dJ,rfl,by rw[qz];exact q⟩) he ds.length 0 ρ M h0 ∅
theorem uP{ds:List D}(I:Nat->En->ag->Prop)(h0:I 0 ρ M)(hs:∀i ρ M d,ds[i]?=some d->I i ρ M->Fc (bI tg (.tup [.int i,d]) ρ) λρ=>eF G b ρ M (I (i+1)) rt nx (I (i+1)))(he:∀ρ M,I ds.length ρ M->nx ρ M):eA (cY (λρ M=>bO G b ρ M) (.gn ds) tg ds.length 0 ρ M) nx rt bk ct:=by
 have bf:(ds.mapIdx λi d=>D.tup [.int (i:Nat),d]).length=ds.length:=by simp
 refine kK (ds:=ds.mapIdx λi d=>D.tup [.int (i:Nat),d]) I (λi ρ M _ _=>?_) (λi ρ M d h e=>?_) (λρ M h=>he ρ M (by rw[bf]at h;exact h)) ds.length 0 ρ M h0 (by rw[bf];omega)
 ·show some (ds[i]?.map λd=>D.tup [.int i,d])=_;rw[CZ]
 ·rw[CZ]at e
  cases e3:ds[i]? with
  | none=>rw[e3]at e;cases e
  | some d' =>
   rw[e3]at e;cases e;have q:=hs i ρ M d' e3 h
   cases e2:bI tg (.tup [.int i,d']) ρ with
   | none=>rw[e2]at q;exact q.elim
   | some dJ=>rw[e2]at q;exact⟨dJ,rfl,by rw[qz];exact q⟩
end
theorem mT:∀(tg:List Nat)(ds:List D)(ρ:En)(i:Nat)(o:Option D),i∉tg->dw tg ds (ρ.set i o)=(dw tg ds ρ).map (·.set i o)
 | [],[],_,_,_,_=>rfl
 | [],_::_,_,_,_,_=>rfl
 | _::_,[],_,_,_,_=>rfl
 | j::tg,d::ds,ρ,i,o,h=>by
  have h1:i≠j:=λz=>h (by rw[z];exact dD);show dw tg ds ((ρ.set i o).set j (some d))=_;rw[List.set_comm _ _ h1,mT tg ds _ i o λz=>h (dB _ z)];rfl
theorem gy:∀(tg:List Nat)(ds es:List D)(ρ dJ:En),tg.Nodup->dw tg ds ρ=some dJ->dw tg es dJ=dw tg es ρ
 | [],[],[],_,_,_,e=>by cases e;rfl
 | [],[],_::_,_,_,_,e=>by cases e;rfl
 | [],_::_,_,_,_,_,e=>by cases e
 | _::_,[],_,_,_,_,e=>by cases e
 | j::tg,d::ds,[],ρ,dJ,n,e=>rfl
 | j::tg,d::ds,f::es,ρ,dJ,n,e=>by
  have n1:=j2.mp n;have e:dw tg ds (ρ.set j (some d))=some dJ:=e;show dw tg es (dJ.set j (some f))=dw tg es (ρ.set j (some f));have e2:=mT tg ds (ρ.set j (some d)) j (some f) n1.1;rw[e,List.set_set]at e2;exact gy tg ds es _ _ n1.2 e2
theorem sZ{tg:List Nat}{d e:D}{ρ dJ:En}(n:tg.Nodup)(h:bI tg d ρ=some dJ):bI tg e dJ=bI tg e ρ:=by
 match tg,n,h with
 | [i],_,h =>
  have h:some (ρ.set i (some d))=some dJ:=h;cases h;show some ((ρ.set i (some d)).set i (some e))=some (ρ.set i (some e));rw[List.set_set]
 | [],_,h =>
  cases d<;>first | cases h | skip
  cases e<;>first | rfl | skip
  exact gy [] _ _ _ _ xO h
 | i::j::tg,n,h =>
  cases d<;>first | cases h | skip
  cases e<;>first | rfl | skip
  exact gy (i::j::tg) _ _ _ _ n h
end
section
variable {ee:tQ->ag->Prop} {G:a9} {cond:Option eh} {elt:C} {tg:List Nat} {ρ:En} {M:ag} {P:W->ag->Prop}
theorem BX{it:It}{ds:List D}(I:Nat->ag->List D->Prop)(n:tg.Nodup)(hit:∀i M aI,I i M aI->i<=ds.length->itemAt M i it=some ds[i]?)(h0:I 0 M [])(hs:∀i M aI d,ds[i]?=some d->I i M aI->aI.length<sizeLine/\Fc (bI tg d ρ) λτ=>mR G cond τ M λr M=>if r=true then wE G elt τ M λw M=>dU (own w M) λx M=>I (i+1) M (aI++[x]) else I (i+1) M aI)(he:∀M aI,I ds.length M aI->P (.lv aI) M){k:Nat}(hk:k=ds.length):@aL ⟨ee⟩ _ (bg (λτ M=>bP G cond τ M) (λτ M=>(ev G elt τ M).bind own) it tg k 0 ρ M []) P:=by
 subst hk;refine qw (er:=⟨ee⟩) (ds:=ds) (λi τ M aI=>I i M aI/\(τ=ρ\/∃d,bI tg d ρ=some τ)) (λi τ M aI h hi=>hit i M aI h.1 hi) (λi τ M aI d h e=>?_) (λτ M aI h=>he M aI h.1) ds.length 0 ρ M [] ⟨h0,.inl rfl⟩ ∅;obtain⟨q1,q2⟩:=hs i M aI d e h.1
 have hb:bI tg d τ=bI tg d ρ:=by
  rcases h.2 with z | ⟨d',z⟩
  ·rw[z]
  ·exact sZ n z
 refine⟨q1,?_⟩
 cases e2:bI tg d ρ with
 | none=>rw[e2]at q2;exact q2.elim
 | some GO =>
  rw[e2]at q2;refine⟨GO,by rw[hb,e2],?_⟩;have q2:mR G cond GO M (λr M=>if r=true then wE G elt GO M λw M=>dU (own w M) λx M=>I (i+1) M (aI++[x]) else I (i+1) M aI):=q2;rw[<- w_cond]at q2;refine q2.imp λr M1 q3=>?_
  cases r with
  | true =>
   rw[aU rfl]at q3⊢;rw[sY];rw[<- sY]at q3⊢;exact q3.imp λx M2 q4=>⟨q4,.inr ⟨d,e2⟩⟩
  | false =>
   rw[aX (by simp)]at q3⊢;exact⟨q3,.inr ⟨d,e2⟩⟩
theorem wN{it:It}{ds:List D}(f:D->Option D)(n:tg.Nodup)(hit:∀M',Ex M M'->∀i,i<=ds.length->itemAt M' i it=some ds[i]?)(hl:ds.length<=sizeLine)(hs:∀(i:Nat) M' d,ds[i]?=some d->Ex M M'->Fc (bI tg d ρ) λτ=>mR G cond τ M' λr M1=>if r=true then wE G elt τ M1 λw M1=>dU (own w M1) λx M1=>f d=some x/\Ex M M1 else f d=none/\Ex M M1)(he:∀M',Ex M M'->P (.lv (ds.filterMap f)) M'){k:Nat}(hk:k=ds.length):@aL ⟨ee⟩ _ (bg (λτ M=>bP G cond τ M) (λτ M=>(ev G elt τ M).bind own) it tg k 0 ρ M []) P:=by
 refine BX (ee:=ee) (ds:=ds) (λi M' aI=>Ex M M'/\aI=(ds.take i).filterMap f) n (λi M' aI h hi=>hit M' h.1 i hi) ⟨Ex.refl M,rfl⟩ ?_ (λM' aI h=>?_) hk
 ·rintro i M' aI d hd ⟨h1,rfl⟩;have hi:=(d4.mp hd).1;refine⟨?_,?_⟩
  ·have:=List.length_filterMap_le f (ds.take i);rw[fD]at this;omega
  ·have q:=hs i M' d hd h1
   have e:∀o,f d=o->(ds.take (i+1)).filterMap f=(ds.take i).filterMap f++o.toList:=λo ho=>by
    rw[cS hd,List.filterMap_append];cases o<;>simp[xB,ho]
   cases e2:bI tg d ρ with
   | none=>rw[e2]at q;exact q.elim
   | some GO =>
    rw[e2]at q;have q:mR G cond GO M' (λr M1=>if r=true then wE G elt GO M1 λw M1=>dU (own w M1) λx M1=>f d=some x/\Ex M M1 else f d=none/\Ex M M1):=q;show mR G cond GO M' (λr M1=>if r=true then wE G elt GO M1 λw M1=>dU (own w M1) λx M1=>Ex M M1/\(ds.take i).filterMap f++[x]=(ds.take (i+1)).filterMap f else Ex M M1/\(ds.take i).filterMap f=(ds.take (i+1)).filterMap f);rw[<- w_cond]at q⊢;refine q.imp λr M1 q3=>?_
    cases r with
    | true =>
     rw[aU rfl]at q3⊢;rw[<- sY]at q3⊢;exact q3.imp λx M2 q4=>⟨q4.2,by rw[e _ q4.1];rfl⟩
    | false =>
     rw[aX (by simp)]at q3⊢;exact⟨q3.2,by rw[e _ q3.1];simp⟩
 ·obtain⟨h1,rfl⟩:=h;rw[xM];exact he M' h1
theorem jN{M:ag}{ds:List D}:∀M',Ex M M'->∀i,i<=ds.length->itemAt M' i (.items ds)=some ds[i]?:=λ_ _ _ _=>rfl
theorem Kj{M:ag}{lo:Int}{n:Nat}:∀M',Ex M M'->∀i,i<=((List.range n).map λi=>D.int (lo+(i:Nat))).length->itemAt M' i (.jV lo n)=some ((List.range n).map λi=>D.int (lo+(i:Nat)))[i]?:=λM' e i hi=>by
 have bf:((List.range n).map λi=>D.int (lo+(i:Nat))).length=n:=by simp
 rw[bf]at hi;show some (if i<n then some (D.int (lo+i)) else none)=_;by_cases q:i<n
 ·rw[aU q];simp[q]
 ·rw[aX q,CW (by rw[bf];omega)]
theorem wQ{lo:Int}{n:Nat}(I:Nat->ag->List D->Prop)(nd:tg.Nodup)(h0:I 0 M [])(hs:∀i M aI,i<n->I i M aI->aI.length<sizeLine/\Fc (bI tg (.int (lo+i)) ρ) λτ=>mR G cond τ M λr M=>if r=true then wE G elt τ M λw M=>dU (own w M) λx M=>I (i+1) M (aI++[x]) else I (i+1) M aI)(he:∀M aI,I n M aI->P (.lv aI) M):@aL ⟨ee⟩ _ (bg (λτ M=>bP G cond τ M) (λτ M=>(ev G elt τ M).bind own) (.jV lo n) tg (dv M (.jV lo n)) 0 ρ M []) P:=by
 have bf:((List.range n).map λi=>D.int (lo+(i:Nat))).length=n:=by simp
 refine BX (ee:=ee) (ds:=(List.range n).map λi=>D.int (lo+(i:Nat))) I nd (λi M' aI _ hi=>Kj M' (Ex.refl M') i hi) h0 (λi M' aI d e h=>?_) (λM' aI h=>he M' aI (by rw[bf]at h;exact h)) (by rw[bf];rfl);have hi:i<n:=by have:=(d4.mp e).1;rw[bf]at this;exact this
 have:d=.int (lo+i):=by rw[ji,List.getElem?_range hi]at e;exact(cu e).symm
 subst this;exact hs i M' aI hi h
end
section
variable [er:Er]
section
variable {G:a9} {ρ:En} {M:ag} {P:W->ag->Prop} {B:Bool->ag->Prop}
theorem oo{a b:C}:wE G (.sub a b) ρ M P=wE G a ρ M λx M=>wE G b ρ M λy M=>dU (dO x y M) P:=rfl
theorem As{f:Nat}{cs:List C}:wE G (.call f cs) ρ M P=sW G cs ρ M λds M=>aL (G f ds M) P:=rfl
end
end
end Ev
end
local macro_rules
  | `(tactic| nofun) => `(tactic| conv => whnf)
section
namespace Ev
open L2
open PySem PySem.Spec PyProof.Rows
noncomputable def BY:List S:=[.asg [2] (.bin .mul (.kn 31) 1),.iff (.val (.cmp .gt (.bi .len [0]) (.kn 0))) [.asg [2] (.bin .add (.sub 0 (.bin .mod 1 (.bi .len [0]))) (.bin .mul (.kn 7919) (.bin .fdiv 1 (.bi .len [0]))))] [],.ret (.vU ["cell","left","turn"] [2,(.bin .mul (.bi .max2 [(.kn 0),2]) (.bi .mr [(.cmp .ge 2 (.bin .pow (.kn 10) (.kn 18)))])),(.kn 0)])]
noncomputable def wR:List S:=[.asg [2] (.sub 0 (.aN (.str "turn"))),.put 0 (.aN (.str "turn")) (.bin .add 2 (.kn 1)),.asg [3] (.sub 0 (.aN (.str "left"))),.iff (.val (.cmp .gt 3 (.kn 0))) [.put 0 (.aN (.str "left")) (.bin .fdiv 3 1),.ret (.bin .mod 3 1)] [],.asg [4] (.bin .add (.bin .add (.bin .mod (.sub 0 (.aN (.str "cell"))) (.kn 2147483647)) (.bin .mul (.bin .mul (.kn 31) 2) 2)) (.kn 1)),.asg [5] (.bin .mod (.bin .mul 4 (.bin .add (.kn 48271) (.bin .mul (.kn 40) 2))) (.kn 2147483629)),.ret (.bin .mod (.bin .fdiv (.bin .mod (.bin .add (.bin .mul (.bin .fdiv 5 (.kn 11)) (.kn 69621)) 2) (.kn 998244353)) (.kn 7)) 1)]
noncomputable def uQ(aR:Nat):List S:=[.asg [2] (.lst []),.iff (.val (.cmp .gt 1 (.kn 1))) [.asg [3] (.lst [(.call aR [0,(.kn 4)]),(.bin .add (.kn 1) (.call aR [0,(.kn 5)])),(.kn 8)]),.dS [4] .fb [(.sub 3 (.bin .fdiv (.call aR [0,(.kn 9)]) (.kn 4)))] [.asg [5] (.call aR [0,1]),.asg [6] (.bin .mod (.bin .add (.bin .add 5 (.kn 1)) (.call aR [0,(.bin .sub 1 (.kn 1))])) 1),.expr (.me .append 2 [(.tup [5,6,(.sub (.lst [(.aN (.str "row")),(.aN (.str "heap"))]) (.call aR [0,(.kn 2)]))])])]] [],.ret (.bi .tuple1 [2])]
noncomputable def qF(aR:Nat):List S:=[.asg [1] (.lst [(.call aR [0,(.kn 100)])]),.asg [2] (.lst [(.call aR [0,(.kn 3)]),(.kn 6)]),.dS [3] .fb [(.sub 2 (.bin .fdiv (.call aR [0,(.kn 16)]) (.kn 15)))] [.asg [4] (.sub (.lst [(.call aR [0,(.kn 100)]),3]) (.call aR [0,(.kn 2)])),.iff (.val (.cmp .gB 4 1)) [.expr (.me .append 1 [4])] []],.ret 1]
noncomputable def uR(aR:Nat):List S:=[.asg [2] (.lst []),.dS [3] .fb [(.bin .mul (.sub (.lst [(.kn 0),(.kn 0),(.kn 1),(.kn 1),(.kn 1),(.kn 2),(.kn 3)]) (.call aR [0,(.kn 7)])) (.bi .mr [(.cmp .gt (.bi .len [1]) (.kn 0))]))] [.asg [4] (.sub 1 (.call aR [0,(.bi .len [1])])),.expr (.me .append 2 [(.tup [4,(.sub (.aN (.str "abcz")) (.call aR [0,(.kn 4)]))])])],.ret (.bi .tuple1 [2])]
def uS(aR:Nat)(mU:Nat):List S:=[.asg [3] (.lst [(.aN .aK),(.aN .aK),(.aN .aK),(.aN (.str "x")),(.aN (.str "yes")),(.aN (.str "abcdefgh")),(.aN (.str "own")),(.aN (.str "a"))]),.asg [4] (.lst []),.dS [5] .seq [1] [.dS [6] .seq [(.tup [(.aN (.str "own")),(.aN (.str "a")),(.aN (.str "b")),(.aN (.str "z"))])] [.iff (.val (.cmp .gt (.call aR [0,(.kn 4)]) (.kn 0))) [.asg [7] (.sub 1 (.call aR [0,(.bi .len [1])])),.asg [8] (.call mU [0,2]),.asg [9] (.sub 3 (.call aR [0,(.kn 8)])),.asg [10] (.call aR [0,(.bin .add (.bi .len [4]) (.kn 1))]),.expr (.me .insert 4 [10,(.tup [5,6,7,8,9])])] []]],.ret (.bi .tuple1 [4])]
noncomputable def wU(fC:Nat)(aR:Nat)(jf:Nat)(da:Nat)(eG:Nat):List S:=[.asg [1] (.call fC [0,(.kn 0)]),.asg [2] (.sub (.lst [(.kn 2),(.kn 1),(.kn 3),(.kn 2),(.kn 4),(.kn 3)]) (.call aR [1,(.kn 6)])),.asg [3] (.call jf [1,2]),.asg [4] (.lst []),.dS [5] .fb [2] [.asg [1] (.call fC [0,(.bin .add (.kn 1) 5)]),.asg [6] (.call da [1]),.kG 7 (.comp .fb [(.bi .len [3])] [1] (some (.val (.cmp .eq (.sub (.sub 3 1) (.kn 0)) 2))) 1 [none,none,some 5,some 3]),.asg [8] (.sub 6 (.call aR [1,(.bi .len [6])])),.expr (.me .append 4 [(.tup [8,(.call eG [1,6,7])])])],.ret (.tup [(.bi .tuple1 [4]),3])]
noncomputable def gD(c l t:Int):MO:=.dK [(Sum.inr ("cell" : Str),.int c),(Sum.inr ("left" : Str),.int l),(Sum.inr ("turn" : Str),.int t)]
section
variable {M:ag} {w:Nat} {c l t:Int}
theorem BZ(h:M[w]?=some (gD c l t)):dO (.d (.aC w)) (.d (.str "cell")) M=.ok (.d (.int c)) M:=by
 unfold dO;simp only[h];rfl
theorem B0(h:M[w]?=some (gD c l t)):dO (.d (.aC w)) (.d (.str "left")) M=.ok (.d (.int l)) M:=by
 unfold dO;simp only[h];rfl
theorem B1(h:M[w]?=some (gD c l t)):dO (.d (.aC w)) (.d (.str "turn")) M=.ok (.d (.int t)) M:=by
 unfold dO;simp only[h];rfl
theorem B2(h:M[w]?=some (gD c l t))(i:Int):jz (.d (.aC w)) (.d (.str "left")) (.int i) M=.ok () (M.set w (gD c i t)):=by
 unfold jz;simp only[h];rfl
theorem B3(h:M[w]?=some (gD c l t))(i:Int):jz (.d (.aC w)) (.d (.str "turn")) (.int i) M=.ok () (M.set w (gD c l i)):=by
 unfold jz;simp only[h];rfl
end
theorem Fx{G:a9}{M:ag}{w:Nat}{c l t many:Int}(h:M[w]?=some (gD c l t))(ht:0<=t/\t<2 ^ 40)(hl:0<=l)(hm:0<many/\many<1073741824):aL (aj G 6 wR [.aC w,.int many] M) λr M'=>∃i l',r=.d (.int i)/\0<=i/\i<many/\0<=l'/\M'=M.set w (gD c l' (t+1)):=by
 have hw:w<M.length:=(d4.mp h).1;rw[bz];show eF G wR [some (.aC w),some (.int many),none,none,none,none] M _ _ _ _;have h1:(M.set w (gD c l (t+1)))[w]?=some (gD c l (t+1)):=tW hw;nofun;rw[B1 h];nofun;rw[B3 h];nofun;rw[B0 h1];nofun;by_cases hp:0<l
 ·rw[bB hp];nofun;refine⟨hm,?_⟩;nofun;rw[B2 h1];nofun;refine⟨hm.1,_,l / many,rfl,Dh _ ∅,C4 _ hm.1,Int.ediv_nonneg hl ∅,?_⟩;rw[List.set_set]
 ·rw[bx hp];nofun;rw[BZ h1];nofun;refine⟨∅,?_⟩;nofun;refine⟨∅,?_⟩;nofun;refine⟨∅,?_⟩;nofun;refine⟨∅,?_⟩;nofun;refine⟨∅,?_⟩;nofun;refine⟨∅,?_⟩;nofun;refine⟨∅,?_⟩;nofun;refine⟨∅,?_⟩;nofun;refine⟨∅,?_⟩;nofun;refine⟨∅,?_⟩;nofun;exact⟨hm.1,_,l,rfl,Dh _ ∅,C4 _ hm.1,hl,rfl⟩
def WA(M:ag)(w:Nat)(T:Int):Prop:=∃c l t,M[w]?=some (gD c l t)/\0<=l/\0<=t/\t<=T
theorem WA.lt{M:ag}{w:Nat}{T:Int}(h:WA M w T):w<M.length:=by obtain⟨c,l,t,h,_⟩:=h;exact bA h
theorem WA.app{M X:ag}{w:Nat}{T:Int}(h:WA M w T):WA (M++X) w T:=by obtain⟨c,l,t,h,q⟩:=h;exact⟨c,l,t,cR h,q⟩
theorem WA.set{M:ag}{w n:Nat}{T:Int}{o:MO}(h:WA M w T)(k:w≠n):WA (M.set n o) w T:=by obtain⟨c,l,t,h,q⟩:=h;exact⟨c,l,t,qA h k,q⟩
theorem WA.mono{M:ag}{w:Nat}{T T2:Int}(h:WA M w T)(k:T<=T2):WA M w T2:=by obtain⟨c,l,t,h,a,b,q⟩:=h;exact⟨c,l,t,h,a,b,Int.le_trans q k⟩
theorem WA.fr{M M1:ag}{w v:Nat}{T:Int}(h:WA M w T)(f:Fr v M M1)(k:w≠v):WA M1 w T:=by obtain⟨c,l,t,h,q⟩:=h;exact⟨c,l,t,f.get h k,q⟩
section
variable {M:ag} {n:Nat} {ds:List D} {i:Int} {x:D}
theorem nJ{P:D->Prop}{k:Nat}(h:∀d∈ds,P d)(h0:0<=i)(h1:i<k)(hk:k=ds.length):∃d,ds[i.toNat]?=some d/\P d:=by
 have hl:i.toNat<ds.length:=∅;exact⟨ds[i.toNat],eK hl,h _ (tY hl)⟩
end
def dW(F:Fn):Prop:=∀(M:ag)(w:Nat)(T many:Int),WA M w T->T<2 ^ 40->0<many->many<1073741824->aL (F [.aC w,.int many] M) λr M'=>∃i,r=.d (.int i)/\0<=i/\i<many/\WA M' w (T+1)/\Fr w M M'
theorem Kk{G:a9}:dW (aj G 6 wR):=by
 intro M w T many ⟨c,l,t,h,hl,h0,h1⟩ hT hm XB;refine(Fx h ⟨h0,∅⟩ hl ⟨hm,XB⟩).imp ?_;rintro r M' ⟨i,l',e,a,b,SF,rfl⟩;exact⟨i,e,a,b,⟨c,l',t+1,d_ h,SF,∅,∅⟩,(Fr.refl w M).TK⟩
def s_(F:Fn):Prop:=∀(M:ag)(ns:List Int)(k:Int),0<=k->k<2 ^ 40->ns.length<=63->aL (F [.ls (ns.map D.int),.int k] M) λr M'=>r=.d (.aC M.length)/\M'.length=M.length+1/\WA M' M.length 0/\Fr M.length M M'
theorem OZ{G:a9}:s_ (aj G 3 BY):=by
 intro M ns k hk NR md;rw[bz];show eF G BY [some (.ls (ns.map D.int)),some (.int k),none] M _ _ _ _
 have eY:∀(c:Int)(b:Bool),WA (M++[MO.dK ((List.map Sum.inr [(("cell" : Str)),"left","turn"]).zip [D.int c,D.int ((if c>0 then c else 0)*if b=true then 1 else 0),D.int 0])]) M.length 0:=by
  intro c b;refine⟨c,_,0,aP,?_,Int.le_refl _,Int.le_refl _⟩;refine Int.mul_nonneg ?_ ?_<;>split<;>omega
 have hb:∀b:Bool,(-(2 ^ 64):Int)<(if b=true then 1 else 0)/\(if b=true then 1 else 0)<(2 ^ 64:Int):=λb=>by split<;>omega
 have bf:∀x:MO,(M++[x]).length=M.length+1:=λx=>by simp
 nofun;refine⟨∅,?_⟩;nofun;by_cases hp:(0:Int)<(ns.map D.int).length
 ·rw[bB hp];have hl:(ns.map D.int).length=ns.length:=cM _;have hr:0<=k % ((ns.map D.int).length:Int):=Dh _ ∅;have Qk:k % ((ns.map D.int).length:Int)<((ns.map D.int).length:Int):=C4 _ hp;have yv:(k % ((ns.map D.int).length:Int)).toNat<ns.length:=∅
  have hg:(ns.map D.int)[(k % ((ns.map D.int).length:Int)).toNat]?=some (.int ns[(k % ((ns.map D.int).length:Int)).toNat]):=by
   rw[ji,eK yv];rfl
  nofun;refine⟨∅,?_⟩;nofun;rw[Kh hr hg];nofun;refine⟨⟨∅,∅⟩,?_⟩;nofun;refine⟨.inl ∅,?_⟩;nofun;refine⟨.inr (hb _),?_⟩;nofun;exact⟨rfl,rfl,bf _,eY _ _,(Fr.refl _ M).app⟩
 ·rw[bx hp];nofun;refine⟨.inr (hb _),?_⟩;nofun;exact⟨rfl,rfl,bf _,eY _ _,(Fr.refl _ M).app⟩
noncomputable def oP(m:Int)(d:D):Prop:=∃a b k,d=.tup [.int a,.int b,.str k]/\0<=a/\a<m/\0<=b/\b<m/\a≠b/\(k = "row" \/ k = "heap")
def uT(F:Fn):Prop:=∀(M:ag)(w:Nat)(T m:Int),WA M w T->T<2 ^ 39->1<=m->m<=4->aL (F [.aC w,.int m] M) λr M'=>∃ds,r=.d (.tup ds)/\ds.length<=8/\(∀d∈ds,oP m d)/\WA M' w (T+100)/\Fr w M M'
theorem Kl{G:a9}{aR:Nat}(hD:dW (G aR)):uT (aj G 7 (uQ aR)):=by
 intro M w T m hw hT Vr Vs;have ID:=hw.lt;rw[bz];show eF G (uQ aR) [some (.aC w),some (.int m),none,none,none,none,none] M _ _ _ _;nofun;refine⟨(show(0:Nat)<=sizeLine by decide),?_⟩;nofun;by_cases hm:1<m
 ·rw[bB hm];have h0:(M++[MO.lst []])[M.length]?=some (.lst []):=aP;nofun;refine(hD _ w T 4 hw.app ∅ ∅ ∅).imp ?_;rintro r M1 ⟨i1,rfl,Lz,O0,Fy,f1⟩;nofun;refine(hD _ w _ 5 Fy ∅ ∅ ∅).imp ?_;rintro r M2 ⟨i2,rfl,O1,Qr,kX,f2⟩;nofun;refine⟨(show(3:Nat)<=sizeLine by decide),?_⟩;have h2:M2[M.length]?=some (.lst []):=f2.get (f1.get h0 ∅) ∅;have l2:=bA h2;nofun;refine(hD _ w _ 9 kX.app ∅ ∅ ∅).imp ?_;rintro r M3 ⟨i3,rfl,Vt,Vu,m8,f3⟩;nofun;refine⟨⟨∅,∅⟩,?_⟩;have h3:M3[M.length]?=some (.lst []):=f3.get (cR h2) ∅;have TN:M3[M2.length]?=some (.lst [.int i1,.int (1+i2),.int 8]):=f3.get aP ∅;have Dy:Fr w M M3:=(((Fr.refl w M).app.trans f1).trans f2).app.trans f3
  obtain⟨d,hd,j,e,Qs,XC⟩:=nJ (P:=λd=>∃j:Int,d=.int j/\0<=j/\j<=8) (ds:=[.int i1,.int (1+i2),.int 8]) (i:=i3 / 4) (k:=3) (by
   intro d hd;simp only[cq,k_,j5]at hd;rcases hd with rfl | rfl | rfl
   ·exact⟨_,rfl,∅,∅⟩
   ·exact⟨_,rfl,∅,∅⟩
   ·exact⟨_,rfl,∅,∅⟩) ∅ ∅ rfl
  subst e;nofun;rw[c_ TN (show(0:Int)<=i3 / 4 by omega) hd];nofun;refine⟨⟨∅,∅⟩,?_⟩;refine jM (n:=j.toNat) (λi ρ M'=>∃ds o4 o5 o6,ρ=[some (.aC w),some (.int m),some (.aC M.length),some (.aC M2.length),o4,o5,o6]/\M'[M.length]?=some (.lst ds)/\ds.length=i/\(∀d∈ds,oP m d)/\WA M' w (T+3+3*i)/\Fr w M M') ⟨[],none,none,none,rfl,h3,rfl,(by intro d h;cases h),m8.mono ∅,Dy⟩ ?_ ?_
  ·rintro i ρ M4 hi ⟨ds,o4,o5,o6,rfl,h4,oG,nK,iP,nL⟩;have XD:(i:Int)<8:=∅;have TQ:=bA h4;nofun;refine(hD _ w _ m iP ∅ ∅ ∅).imp ?_;rintro r M5 ⟨i5,rfl,LA,Km,jW,f5⟩;nofun;refine(hD _ w _ (m-1) jW ∅ ∅ ∅).imp ?_;rintro r M6 ⟨i6,rfl,Kn,LB,yY,f6⟩;nofun;have h6:M6[M.length]?=some (.lst ds):=f6.get (f5.get h4 ∅) ∅;refine⟨∅,?_⟩;nofun;refine⟨ia h6,?_⟩;nofun;refine⟨(show(2:Nat)<=sizeLine by decide),?_⟩;nofun;refine(hD _ w _ 2 yY ∅ ∅ ∅).imp ?_;rintro r M7 ⟨i7,rfl,O2,TR,TU,f7⟩
   obtain⟨k,hk,k',e,DZ⟩:=nJ (P:=λd=>∃k:Str,d=.str k/\(k = "row" \/ k = "heap")) (ds:=[.str "row",.str "heap"]) (i:=i7) (k:=2) (by
    intro d hd;simp only[cq,k_,j5]at hd;rcases hd with rfl | rfl
    ·exact⟨_,rfl,.inl rfl⟩
    ·exact⟨_,rfl,.inr rfl⟩) O2 TR rfl
   subst e;nofun;rw[qB O2 hk];nofun;refine⟨(show(3:Nat)<=sizeLine by decide),?_⟩;have h7:M7[M.length]?=some (.lst ds):=f7.get h6 ∅;nofun;rw[h_ h7 (cy ∅)];refine⟨ds++[.tup [.int i5,.int ((i5+1+i6) % m),.str k']],_,_,_,rfl,d_ h7,by simp[oG],?_,?_,?_⟩
   ·intro d hd;rcases gO.mp hd with q | q
    ·exact nK d q
    ·have:d=.tup [.int i5,.int ((i5+1+i6) % m),.str k']:=by simpa using q
     subst this;have XE:m=2\/m=3\/m=4:=∅;refine⟨_,_,_,rfl,LA,Km,Dh _ ∅,C4 _ ∅,?_,DZ⟩;rcases XE with rfl | rfl | rfl<;>omega
   ·exact(TU.set ∅).mono ∅
   ·exact(((nL.trans f5).trans f6).trans f7).set (ar _)
  ·rintro ρ M4 ⟨ds,o4,o5,o6,rfl,h4,oG,nK,iP,nL⟩;nofun;rw[eV h4];exact⟨ds,rfl,∅,nK,iP.mono ∅,nL⟩
 ·rw[bx hm];nofun;rw[eV aP];exact⟨[],rfl,by decide,(by intro d h;cases h),hw.app.mono ∅,(Fr.refl w M).app⟩
def wV(d:D):Prop:=∃i:Int,d=.int i/\0<=i/\i<100
noncomputable def B4(P:Int->Prop)(d:D):Prop:=∃r c,d=.tup [.int r,.str c]/\P r/\(c = "a" \/ c = "b" \/ c = "c" \/ c = "z")
theorem TV{M:ag}{i:Int}(h0:0<=i)(h1:i<4):∃c,dO (.d (.str "abcz")) (.d (.int i)) M=.ok (.d (.str c)) M/\(c = "a" \/ c = "b" \/ c = "c" \/ c = "z"):=by
 have:i=0\/i=1\/i=2\/i=3:=∅;rcases this with rfl | rfl | rfl | rfl
 ·exact⟨"a",rfl,.inl rfl⟩
 ·exact⟨"b",rfl,.inr (.inl rfl)⟩
 ·exact⟨"c",rfl,.inr (.inr (.inl rfl))⟩
 ·exact⟨"z",rfl,.inr (.inr (.inr rfl))⟩
def uU(F:Fn):Prop:=∀(P:Int->Prop)(M:ag)(w nw:Nat)(T:Int)(cK:List D),WA M w T->T<2 ^ 39+10000->M[nw]?=some (.lst cK)->nw≠w->(∀d∈cK,∃r,d=.int r/\P r)->cK.length<=100 ->
 aL (F [.aC w,.aC nw] M) λr M'=>∃ds,r=.d (.tup ds)/\ds.length<=3/\(∀d∈ds,B4 P d)/\WA M' w (T+20)/\Fr w M M'
theorem Ko{G:a9}{aR:Nat}(hD:dW (G aR)):uU (aj G 5 (uR aR)):=by
 intro P M w nw T cK hw hT hn mZ hP O3;have ID:=hw.lt;have XF:=bA hn;rw[bz];show eF G (uR aR) [some (.aC w),some (.aC nw),none,none,none] M _ _ _ _;nofun;refine⟨(show(0:Nat)<=sizeLine by decide),?_⟩;nofun;refine⟨(show(7:Nat)<=sizeLine by decide),?_⟩;nofun;refine(hD _ w T 7 hw.app ∅ ∅ ∅).imp ?_;rintro r M1 ⟨i1,rfl,Lz,O0,Fy,f1⟩
 obtain⟨d,hd,j,e,Qs,Vv⟩:=nJ (P:=λd=>∃j:Int,d=.int j/\0<=j/\j<=3) (ds:=[.int 0,.int 0,.int 1,.int 1,.int 1,.int 2,.int 3]) (i:=i1) (k:=7) (by
  intro d hd;simp only[cq,k_,j5]at hd;rcases hd with rfl | rfl | rfl | rfl | rfl | rfl | rfl<;>exact⟨_,rfl,∅,∅⟩) Lz O0 rfl
 subst e;nofun;rw[qB Lz hd];have h1:M1[nw]?=some (.lst cK):=f1.get (cR hn) mZ;have ho:M1[M.length]?=some (.lst []):=f1.get aP ∅;have XG:Fr w M M1:=(Fr.refl w M).app.trans f1;nofun;rw[dA h1];nofun;refine⟨.inl ∅,?_⟩
 have hj:0<=j*(if decide ((0:Int)<cK.length)=true then 1 else 0)/\j*(if decide ((0:Int)<cK.length)=true then 1 else 0)<=3/\(0<j*(if decide ((0:Int)<cK.length)=true then 1 else 0)->(0:Int)<cK.length):=by
  by_cases q:(0:Int)<cK.length
  ·simp only[bB q,dE,Int.mul_one];exact⟨Qs,Vv,λ_=>q⟩
  ·simp only[bx q];simp
 generalize TX:j*(if decide ((0:Int)<cK.length)=true then 1 else 0)=jj at hj;obtain⟨Qs,Vv,XH⟩:=hj;have O4:j*(if decide ((cK.length:Int)>0)=true then 1 else 0)=jj:=TX;nofun;refine⟨⟨by first | omega | (rw[O4];omega) | (show _<=j*(if decide ((0:Int)<cK.length)=true then 1 else 0);rw[TX];omega),by first | omega | (rw[O4];omega) | (show j*(if decide ((0:Int)<cK.length)=true then 1 else 0)<_;rw[TX];omega)⟩,?_⟩;refine jM (n:=jj.toNat) (λi ρ M'=>∃ds o3 o4,ρ=[some (.aC w),some (.aC nw),some (.aC M.length),o3,o4]/\M'[M.length]?=some (.lst ds)/\ds.length=i/\(∀d∈ds,B4 P d)/\WA M' w (T+1+2*i)/\Fr w M M') ⟨[],none,none,rfl,ho,rfl,(by intro d h;cases h),Fy.mono ∅,XG⟩ ?_ ?_
 ·rintro i ρ M4 hi ⟨ds,o3,o4,rfl,h4,oG,nK,iP,nL⟩;have XJ:(0:Int)<cK.length:=XH ∅;have O5:M4[nw]?=some (.lst cK):=nL.get hn mZ;nofun;rw[dA O5];nofun;refine(hD _ w _ _ iP ∅ XJ ∅).imp ?_;rintro r M5 ⟨i5,rfl,LA,Km,jW,f5⟩;have XM:M5[nw]?=some (.lst cK):=f5.get O5 mZ;obtain⟨d,hd,r,e,XN⟩:=nJ (ds:=cK) (i:=i5) (k:=cK.length) hP LA Km rfl;subst e;nofun;rw[c_ XM LA hd];have h5:M5[M.length]?=some (.lst ds):=f5.get h4 ∅;nofun;refine⟨ia h5,?_⟩;nofun;refine(hD _ w _ 4 jW ∅ ∅ ∅).imp ?_;rintro r6 M6 ⟨i6,rfl,Kn,LB,yY,f6⟩;obtain⟨c,hc,y8⟩:=TV (M:=M6) Kn LB;nofun;rw[hc];nofun;refine⟨(show(2:Nat)<=sizeLine by decide),?_⟩;have h6:M6[M.length]?=some (.lst ds):=f6.get h5 ∅;nofun;rw[h_ h6 (cy ∅)];refine⟨ds++[.tup [.int r,.str c]],_,_,rfl,d_ h6,by simp[oG],?_,(yY.set ∅).mono ∅,((nL.trans f5).trans f6).set (ar _)⟩;intro x hx;rcases gO.mp hx with q | q
  ·exact nK x q
  ·have:x=.tup [.int r,.str c]:=by simpa using q
   subst this;exact⟨_,_,rfl,XN,y8⟩
 ·rintro ρ M4 ⟨ds,o3,o4,rfl,h4,oG,nK,iP,nL⟩;nofun;rw[eV h4];exact⟨ds,rfl,∅,nK,iP.mono ∅,nL⟩
def B5(d:D):Prop:=d=.aK\/∃x:Str,d=.str x/\(x = "x" \/ x = "yes" \/ x = "abcdefgh" \/ x = "own" \/ x = "a")
def B6(d:D):Prop:=∃x:Str,d=.str x/\(x = "own" \/ x = "a" \/ x = "b" \/ x = "z")
def wW(P:Int->Prop)(d:D):Prop:=∃s c a sends wd,d=.tup [s,c,a,.tup sends,wd]/\wV s/\B6 c/\wV a/\sends.length<=3/\(∀x∈sends,B4 P x)/\B5 wd
noncomputable def qG(bo:List D)(m:Nat)(r:Int):Prop:=0<=r/\∃b k,bo[r.toNat]?=some (.tup [.int m,b,k])
def B7(bo:List D)(m:Nat)(d:D):Prop:=∃st moves,d=.tup [st,.tup moves]/\wV st/\moves.length<=28/\∀y∈moves,wW (qG bo m) y
def GP(d:D):Prop:=∃bX bo,d=.tup [.tup bX,.tup bo]/\1<=bX.length/\bX.length<=4/\bo.length<=8/\(∀x∈bo,oP bX.length x)/\∀m x,bX[m]?=some x->B7 bo m x
theorem Fr.none{w:Nat}{M M1 M2:ag}(a:Fr M.length M M1)(b:Fr w M1 M2)(h:M.length<=w):Fr M.length M M2:=⟨bJ a.1 b.1,λn hn k=>(b.2 n (ft hn a.1) ∅).trans (a.2 n hn k)⟩
theorem B8{m:Int}{bo:List D}{i:Nat}(h:∀x∈bo,oP m x)(hi:i<bo.length):∃a b k,bo[i]?=some (.tup [.int a,.int b,.str k]):=by
 obtain⟨a,b,k,e,_⟩:=h bo[i] (tY hi);exact⟨a,b,k,by rw[eK hi,e]⟩
noncomputable def wX:C:=.comp .fb [.bi .len [.eO 3]] [1] (some (.val (.cmp .eq (.sub (.sub 3 1) (.kn 0)) 2))) 1 [none,none,some 5,some 3]
theorem Fz{G:a9}{ρ:En}{M:ag}{m:Int}{i:Nat}{bo:List D}{P:W->ag->Prop}(h5:ρ[5]?=some (some (.int i)))(h3:ρ[3]?=some (some (.tup bo)))(O6:bo.length<=8)(DV:∀x∈bo,oP m x)(q:∀cK,cK.length<=8->(∀d∈cK,∃r,d=.int r/\qG bo i r)->P (.lv cK) M):wE G wX ρ M P:=by
 unfold wX;nofun;rw[h3];nofun;refine⟨⟨∅,∅⟩,?_⟩;rw[show eI [none,none,some 5,some 3] ρ=[none,none,some (.int i),some (.tup bo)] by unfold eI;simp only[iC,xU,Option.bind_none,Option.bind_some,h5,h3,Option.join_some]];refine wQ (n:=(bo.length:Int).toNat) (λk M' aI=>M=M'/\aI.length<=k/\∀d∈aI,∃r,d=.int r/\qG bo i r) (by decide) ⟨rfl,ar _,(by intro d h;cases h)⟩ ?_ ?_
 ·rintro k M7 aI hk ⟨rfl,wY,LC⟩;have DZ:k<bo.length:=∅;refine⟨cy ∅,?_⟩;obtain⟨a,b,kk,XQ⟩:=B8 DV DZ;have O7:bo[((0:Int)+(k:Nat)).toNat]?=some (.tup [.int a,.int b,.str kk]):=by rw[show((0:Int)+(k:Nat)).toNat=k by omega];exact XQ
  nofun;rw[qC (show(0:Int)<=0+(k:Nat) by omega) O7];nofun
  cases q:(a==(i:Int))with
  | true =>
   have q:a=i:=by simpa using q
   subst q;refine⟨rfl,by simp;omega,?_⟩;intro d hd;rcases gO.mp hd with z | z
   ·exact LC d z
   ·have:d=.int (0+k):=by simpa using z
    subst this;exact⟨_,rfl,∅,.int b,.str kk,O7⟩
  | false=>exact⟨rfl,∅,LC⟩
 ·rintro M7 cK ⟨rfl,wY,LC⟩;exact q cK ∅ LC
def GQ(fC aR da eG:Nat):List S:=[.asg [1] (.call fC [0,(.bin .add (.kn 1) 5)]),.asg [6] (.call da [1]),.kG 7 wX,.asg [8] (.sub 6 (.call aR [1,(.bi .len [6])])),.expr (.me .append 4 [(.tup [8,(.call eG [1,6,7])])])]
theorem Kp(a b:Str):PyData.strOk (a++b)=(PyData.strOk a&&PyData.strOk b):=by
 show(a.cps++b.cps).all _=_;rw[Array.all_append];rfl
noncomputable def Tx(b:Nat)(x:Str):Prop:=x.length<=b/\PyData.strOk x=true
theorem Tx.app{a b:Nat}{x y:Str}(h:Tx a x)(k:Tx b y):Tx (a+b) (x++y):=⟨by rw[strLen_append];have:=h.1;have:=k.1;omega,by rw[Kp,h.2,k.2];rfl⟩
theorem Tx.mono{a b:Nat}{x:Str}(h:Tx a x)(k:a<=b):Tx b x:=⟨bJ h.1 k,h.2⟩
end Ev
end
section
namespace Ev
open PySem
end Ev
end
section
namespace Ev
open L2
open PySem PySem.Spec PyProof.Rows
structure Mv where
 s:Int
 c:Str
 a:Int
 sd:List (Int×Str)
 w:Option Str
structure Fm where
 ru:List (Int×List Mv)
 ro:List (Int×Int×Str)
def pD(p:Int×Str):D:=.tup [.int p.1,.str p.2]
def GR:Option Str->D
 | none=>.aK
 | some x=>.str x
noncomputable def LD(m:Mv):D:=.tup [.int m.s,.str m.c,.int m.a,.tup (m.sd.map pD),GR m.w]
def zf(r:Int×List Mv):D:=.tup [.int r.1,.tup (r.2.map LD)]
noncomputable def uV(r:Int×Int×Str):D:=.tup [.int r.1,.int r.2.1,.str r.2.2]
def tf(f:Fm):D:=.tup [.tup (f.ru.map zf),.tup (f.ro.map uV)]
noncomputable def B9(s:Str):Prop:=s = "a" \/ s = "b" \/ s = "c" \/ s = "z"
def Kq(w:Option Str):Prop:=∀x,w=some x->x = "x" \/ x = "yes" \/ x = "abcdefgh" \/ x = "own" \/ x = "a"
structure FA (ro:List (Int×Int×Str)) (m:Nat) (y:Mv):Prop where
 s:0<=y.s/\y.s<100
 c:y.c = "own" \/ y.c = "a" \/ y.c = "b" \/ y.c = "z"
 a:0<=y.a/\y.a<100
 l:y.sd.length<=3
 sd:∀p∈y.sd,B9 p.2/\0<=p.1/\∃r,ro[p.1.toNat]?=some r/\r.1=m
 w:Kq y.w
structure Kr (n:Nat) (r:Int×Int×Str):Prop where
 a:0<=r.1/\r.1<n
 b:0<=r.2.1/\r.2.1<n
 ab:r.1≠r.2.1
 k:r.2.2 = "row" \/ r.2.2 = "heap"
structure Ks (f:Fm):Prop where
 l1:1<=f.ru.length
 l4:f.ru.length<=4
 l8:f.ro.length<=8
 ro:∀r∈f.ro,Kr f.ru.length r
 ru:∀m x,f.ru[m]?=some x->(0<=x.1/\x.1<100)/\x.2.length<=28/\∀y∈x.2,FA f.ro m y
theorem B_{α:Type}{toD:α->D}:∀{ds:List D}{Q:Nat->α->Prop},(∀m x,ds[m]?=some x->∃a,x=toD a/\Q m a)->∃as:List α,ds=as.map toD/\∀m a,as[m]?=some a->Q m a
  | [],Q,_=>⟨[],rfl,λm a h=>by simp at h⟩
  | d::ds,Q,h=>by
    obtain⟨as,e,q⟩:=B_ (toD:=toD) (ds:=ds) (Q:=λm a=>Q (m+1) a) λm x hx=>h (m+1) x (by simpa using hx);obtain⟨a,e0,q0⟩:=h 0 d (by simp);refine⟨a::as,by rw[iC,<- e,e0],λm b hb=>?_⟩
    cases m with
    | zero => have : a = b := by simpa using hb
              subst this;exact q0
    | succ m=>exact q m b (by simpa using hb)
theorem uW{α:Type}{toD:α->D}{ds:List D}{Q:α->Prop}(h:∀x∈ds,∃a,x=toD a/\Q a):∃as:List α,ds=as.map toD/\∀a∈as,Q a:=by
 obtain⟨as,e,q⟩:=B_ (toD:=toD) (ds:=ds) (Q:=λ_ a=>Q a) λm x hx=>h x (dC hx);exact⟨as,e,λa ha=>by obtain⟨i,hi,rfl⟩:=CY.mp ha;exact q i _ (eK hi)⟩
theorem uX{d:D}(h:GP d):∃f,d=tf f/\Ks f:=by
 obtain⟨bX,bo,rfl,h1,h4,h8,DV,GS⟩:=h
 obtain⟨ro,rfl,zg⟩:=uW (toD:=uV) (ds:=bo) (Q:=Kr bX.length) λx hx=>by
  obtain⟨a,b,k,rfl,a0,a1,b0,b1,ab,hk⟩:=DV x hx;exact⟨(a,b,k),rfl,⟨a0,a1⟩,⟨b0,b1⟩,ab,hk⟩
 obtain⟨ru,e,hr⟩:=B_ (toD:=zf) (ds:=bX) (Q:=λm x=>(0<=x.1/\x.1<100)/\x.2.length<=28/\∀y∈x.2,FA ro m y) λm x hx=>by
  obtain⟨st,moves,rfl,⟨i,rfl,i0,i1⟩,hl,hm⟩:=GS m x hx
  obtain⟨mv,rfl,zh⟩:=uW (toD:=LD) (ds:=moves) (Q:=FA ro m) λy hy=>by
   obtain⟨s,c,a,sd,wd,rfl,⟨s',rfl,s0,s1⟩,⟨c',rfl,hc⟩,⟨a',rfl,a0,a1⟩,hl,O8,hw⟩:=hm y hy
   obtain⟨XR,rfl,hs⟩:=uW (toD:=pD) (ds:=sd) (Q:=λp=>B9 p.2/\0<=p.1/\∃r,ro[p.1.toNat]?=some r/\r.1=(m:Int)) λz hz=>by
    obtain⟨r,c,rfl,⟨r0,b,k,hr⟩,hc⟩:=O8 z hz;rw[ji]at hr
    cases e:ro[r.toNat]? with
    | none=>rw[e]at hr;cases hr
    | some q =>
     rw[e]at hr;have hr:uV q=.tup [.int m,b,k]:=cu hr;refine⟨(r,c),rfl,hc,r0,q,e,?_⟩;unfold uV at hr;simp only[D.tup.injEq,List.cons.injEq,D.int.injEq]at hr;exact hr.1
   have TY:∃w,wd=GR w/\Kq w:=by
    rcases hw with rfl | ⟨x,rfl,hx⟩
    ·exact⟨none,rfl,λx h=>by cases h⟩
    ·exact⟨some x,rfl,λy h=>by cases h;exact hx⟩
   obtain⟨w,rfl,kX⟩:=TY;exact⟨⟨s',c',a',XR,w⟩,rfl,⟨s0,s1⟩,hc,⟨a0,a1⟩,by simpa using hl,hs,kX⟩
  exact⟨(i,mv),rfl,⟨i0,i1⟩,by simpa using hl,zh⟩
 subst e;rw[cM]at h1 h4;exact⟨⟨ru,ro⟩,rfl,h1,h4,by simpa using h8,by simpa using zg,hr⟩
section
variable {M:ag} {n:Nat} {ds:List D} {i:Int} {x:D}
abbrev iD(ks:List Int):List D:=ks.map D.int
theorem wZ{k:Nat}:∀(ks:List Int),bj M k (iD ks)=some (ks.map PyData.int)
 | []=>by show bj M k []=_;unfold bj;rfl
 | i::ks=>by
  show bj M k (.int i::iD ks)=_;unfold bj;have:cL M k (.int i)=some (.int i):=by cases k<;>(unfold cL;rfl)
  rw[this,wZ ks];rfl
theorem w4:∀(ks:List Int),(ks.map PyData.int).all SeqAt.shaped=true
 | []=>rfl
 | i::ks=>by
  show(SeqAt.shaped (.int i)&&(ks.map PyData.int).all SeqAt.shaped)=true;rw[kL,w4 ks];rfl
theorem w6{i:Int}:∀(ks:List Int),gm (.int i) (ks.map PyData.int)=decide (i∈ks)
 | []=>by simp[gm]
 | k::ks=>by
  show(PyData.eqv (.int k) (.int i)||gm (.int i) (ks.map PyData.int))=_;rw[w6 ks,zw];by_cases h:k=i
  ·subst h;simp
  ·have h2:(k==i)=false:=iR.mpr h;rw[h2,Bool.false_or];by_cases h3:i∈ks
   ·rw[bB h3,bB (dB _ h3)]
   ·rw[bx h3,bx (λz=>by
     rcases cq.mp z with z | z
     ·exact h z.symm
     ·exact h3 z)]
theorem Kt{i:Int}:jw M (.d (.int i))=some (.int i):=by show cL M 30 (.int i)=_;unfold cL;rfl
theorem Ku{i:Int}{ks:List Int}(h:M[n]?=some (.lst (iD ks))):bp .isin (.d (.int i)) (.d (.aC n)) M=.ok (decide (i∈ks)) M:=by
 unfold bp;simp only[Kt,bD,h,wZ,kL,w4,lb,dE,w6]
end
def eJ(w:Str):D->Bool
 | .str s=>s==w
 | _=>false
def Vw:D->Bool
 | .int _=>true
 | _=>false
def XS:D->Bool
 | .bl _=>true
 | _=>false
def TZ:D->Bool
 | .str _=>true
 | _=>false
theorem fM{M:ag}{ds:List D}{m:Nat}{x:D}(h:ds[m]?=some x):dO (.d (.tup ds)) (.d (.int m)) M=.ok (.d x) M:=BV h
end Ev
end
section
namespace Ev
open PySem
end Ev
end
section
namespace Ev
open L2
open PySem PySem.Spec PyProof.Rows
end Ev
end
section
namespace Ev
open PySem
end Ev
end
section
namespace Ev
open L2
open PySem PySem.Spec PyProof.Rows
end Ev
end
section
namespace Ev
open PySem
end Ev
end
section
namespace Ev
open L2
open PySem PySem.Spec PyProof.Rows
theorem pw{κ:Type}[DecidableEq κ]{ao:List (κ×D)}{k k':κ}{v:D}:(k≠k'->dN (ao.map λkv=>if kv.1=k then (kv.1,v) else kv) k'=dN ao k')/\(k=k'->k∈ao.map (·.1)->dN (ao.map λkv=>if kv.1=k then (kv.1,v) else kv) k'=some v):=by
 induction ao with
 | nil=>exact⟨λ_=>rfl,λ_ h=>by cases h⟩
 | cons p ao ih =>
  obtain⟨i1,i2⟩:=ih;unfold dN at i1 i2⊢;rw[iC,j3,j3];by_cases hp:p.1=k
  ·rw[aU hp];refine⟨λhk=>?_,λhk _=>?_⟩
   ·have h1:decide (p.1=k')=false:=bx λh=>hk (hp.symm.trans h);simp only[h1];exact i1 hk
   ·subst hk;simp only[hp,decide_true];rfl
  ·rw[aX hp];refine⟨λhk=>?_,λhk hm=>?_⟩
   ·cases q:decide (p.1=k')with
    | true=>rfl
    | false=>exact i1 hk
   ·subst hk;simp only[bx hp];refine i2 rfl ?_;rw[iC]at hm;rcases cq.mp hm with z | z
    ·exact absurd z.symm hp
    ·exact z
theorem w8{κ:Type}[DecidableEq κ]{ao:List (κ×D)}{k:κ}:(ao.any λkv=>decide (kv.1=k))=true↔k∈ao.map (·.1):=by
 rw[List.any_eq_true,iS];constructor
 ·rintro⟨p,h1,h2⟩;exact⟨p,h1,zr h2⟩
 ·rintro⟨p,h1,h2⟩;exact⟨p,h1,bB h2⟩
theorem FC{κ:Type}[DecidableEq κ]{ao:List (κ×D)}{k k':κ}{v:D}(h:k∉ao.map (·.1)):dN (ao++[(k,v)]) k'=if k=k' then some v else dN ao k':=by
 have e:dN (ao++[(k,v)]) k'=((ao.find? λp=>decide (p.1=k')).or ([(k,v)].find? λp=>decide (p.1=k'))).map (·.2):=by
  unfold dN;rw[List.find?_append]
 rw[e];by_cases hk:k=k'
 ·subst hk;rw[aU rfl,List.find?_eq_none.mpr (λp hp q=>h (iS.mpr ⟨p,hp,zr q⟩))];simp
 ·rw[aX hk]
  have:([(k,v)].find? λp=>decide (p.1=k'))=none:=by
   rw[j3];have:decide ((k,v).1=k')=false:=bx hk;simp only[this];rfl
  rw[this,Option.or_none];rfl
theorem FD{κ:Type}[DecidableEq κ]{ao:List (κ×D)}{k k':κ}{v:D}:dN (jx ao k v) k'=if k=k' then some v else dN ao k':=by
 unfold jx;by_cases h:k∈ao.map (·.1)
 ·rw[aU (w8.mpr h)];by_cases hk:k=k'
  ·rw[pw.2 hk h,aU hk]
  ·rw[pw.1 hk,aX hk]
 ·rw[aX (λz=>h (w8.mp z)),FC h]
theorem FE{κ:Type}[DecidableEq κ]{ao:List (κ×D)}{k:κ}{v:D}:(jx ao k v).length<=ao.length+1:=by
 unfold jx;split
 ·rw[cM];omega
 ·rw[bY];exact ar _
end Ev
end
section
namespace br
open Ev PySem
abbrev Fu:=List D->ag->bF W
abbrev c0(l:List Fu):=l
def n0:List Str:=["thing"]
noncomputable def b0:List S:=[.ret (.cw [(.bi (.iJ .int) [0]),(.neg (.bi (.iJ .bool) [0]))])]
def f0:Fu:=aj (cv (c0 [])) 1 b0
abbrev c1(l:List Fu):=c0 (f0::l)
def n1:List Str:=["thing","bound"]
noncomputable def b1:List S:=[.ret (.cw [(.call 0 [0]),(.chain .le .lt (.kn 0) 0 1)])]
def f1:Fu:=aj (cv (c1 [])) 2 b1
abbrev c2(l:List Fu):=c1 (f1::l)
def n2:List Str:=["thing"]
def b2:List S:=[.ret (.call 1 [0,(.qT "STATES" 100)])]
def f2:Fu:=aj (cv (c2 [])) 1 b2
abbrev c3(l:List Fu):=c2 (f2::l)
def n3:List Str:=["thing"]
noncomputable def b3:List S:=[.ret (.cw [(.bi (.iJ .str) [0]),(.cmp .eq (.bi .len [0]) (.kn 1)),(.chain .le .le (.aN (.str "a")) 0 (.aN (.str "z")))])]
def f3:Fu:=aj (cv (c3 [])) 1 b3
abbrev c4(l:List Fu):=c3 (f3::l)
def n4:List Str:=["thing"]
def b4:List S:=[.iff (.bU [(.neg (.val (.bi (.iJ .str) [0]))),(.neg (.val (.chain .le .le (.kn 1) (.bi .len [0]) (.qT "LONGEST_WORD" 8))))]) [.ret (.aN (.bl false))] [],.ret (.bi .all1 [(.comp .seq [0] [1] none (.call 3 [1]) [none,none])])]
def f4:Fu:=aj (cv (c4 [])) 1 b4
abbrev c5(l:List Fu):=c4 (f4::l)
def n5:List Str:=["thing","many"]
noncomputable def b5:List S:=[.ret (.cw [(.bi (.iJ .tuple) [0]),(.cmp .eq (.bi .len [0]) 1)])]
def f5:Fu:=aj (cv (c5 [])) 2 b5
abbrev c6(l:List Fu):=c5 (f5::l)
def n6:List Str:=["thing","most"]
noncomputable def b6:List S:=[.ret (.cw [(.bi (.iJ .tuple) [0]),(.cmp .le (.bi .len [0]) 1)])]
def f6:Fu:=aj (cv (c6 [])) 2 b6
abbrev c7(l:List Fu):=c6 (f6::l)
def n7:List Str:=["thing"]
noncomputable def b7:List S:=[.iff (.neg (.val (.call 5 [0,(.kn 2)]))) [.ret (.aN (.bl false))] [],.ret (.cw [(.call 6 [(.ks 0 0),(.qT "MOST_RULES" 4)]),(.cmp .gt (.bi .len [(.ks 0 0)]) (.kn 0)),(.call 6 [(.ks 0 1),(.qT "MOST_ROADS" 8)])])]
def f7:Fu:=aj (cv (c7 [])) 1 b7
abbrev c8(l:List Fu):=c7 (f7::l)
def n8:List Str:=["thing","own_roads"]
noncomputable def b8:List S:=[.iff (.bU [(.neg (.val (.call 5 [0,(.kn 2)]))),(.neg (.val (.call 0 [(.ks 0 0)])))]) [.ret (.aN (.bl false))] [],.ret (.cw [(.cmp .isin (.ks 0 0) 1),(.call 3 [(.ks 0 1)])])]
def f8:Fu:=aj (cv (c8 [])) 2 b8
abbrev c9(l:List Fu):=c8 (f8::l)
def n9:List Str:=["thing","own_roads"]
def b9:List S:=[.iff (.bU [(.neg (.val (.call 5 [0,(.kn 5)]))),(.neg (.val (.call 2 [(.ks 0 0)]))),(.neg (.val (.call 2 [(.ks 0 2)])))]) [.ret (.aN (.bl false))] [],.iff (.cw [(.val (.cmp .ne (.ks 0 1) (.aN (.str "own")))),(.neg (.val (.call 3 [(.ks 0 1)])))]) [.ret (.aN (.bl false))] [],.iff (.bU [(.neg (.val (.call 6 [(.ks 0 3),(.qT "MOST_SENDS" 3)]))),(.neg (.val (.bi .all1 [(.comp .seq [(.ks 0 3)] [1] none (.call 8 [1,2]) [none,none,some 1])])))]) [.ret (.aN (.bl false))] [],.ret (.bU [(.cmp .mq (.ks 0 4) (.aN .aK)),(.call 4 [(.ks 0 4)])])]
def f9:Fu:=aj (cv (c9 [])) 2 b9
abbrev Qt(l:List Fu):=c9 (f9::l)
noncomputable def XT:List Str:=["moves","own_roads","moves_ahead","met","n","move"]
noncomputable def O9:List S:=[.asg [3] .lx,.dS [4,5] .enum [0] [.iff (.bU [(.neg (.val (.call 9 [5,1]))),(.val (.fW false (.tup [(.ks 5 0),(.ks 5 1)]) 3))]) [.yS 44 ["word","number"] [(.aN (.str "move")),(.bin .add 2 4)]] [],.dput 3 (.tup [(.ks 5 0),(.ks 5 1)]) (.aN (.bl true))]]
def XU:Fu:=aj (cv (Qt [])) 6 O9
abbrev Qu(l:List Fu):=Qt (XU::l)
def XV:List Str:=["thing","machines"]
noncomputable def Qv:List S:=[.iff (.neg (.val (.call 5 [0,(.kn 3)]))) [.ret (.aN (.bl false))] [],.iff (.bU [(.neg (.val (.call 1 [(.ks 0 0),1]))),(.neg (.val (.call 1 [(.ks 0 1),1])))]) [.ret (.aN (.bl false))] [],.ret (.cw [(.cmp .ne (.ks 0 0) (.ks 0 1)),(.cmp .isin (.ks 0 2) (.tup [(.aN (.str "row")),(.aN (.str "heap"))]))])]
def XW:Fu:=aj (cv (Qu [])) 2 Qv
abbrev Qw(l:List Fu):=Qu (XW::l)
def XX:List Str:=["thing"]
noncomputable def Qx:List S:=[.ret (.cw [(.call 5 [0,(.kn 2)]),(.call 2 [(.ks 0 0)]),(.call 6 [(.ks 0 1),(.qT "MOST_MOVES" 30)])])]
def Kv:Fu:=aj (cv (Qw [])) 1 Qx
abbrev Qy(l:List Fu):=Qw (Kv::l)
def XY:List Str:=["form","m"]
noncomputable def Qz:List S:=[.ret (.comp .enum [(.ks 0 1)] [1,2] (some (.val (.cmp .eq (.ks 2 0) 3))) 1 [none,none,none,some 1])]
def FF:Fu:=aj (cv (Qy [])) 2 Qz
abbrev QA(l:List Fu):=Qy (FF::l)
noncomputable def XZ:List Str:=["thing","rules","roads","n","road","moves_ahead","m","rule"]
noncomputable def O_:List S:=[.iff (.neg (.val (.call 7 [0]))) [.yS 44 ["word","number"] [(.aN (.str "form")),(.kn 0)]] [],.asg [1] (.ks 0 0),.asg [2] (.ks 0 1),.dS [3,4] .enum [2] [.iff (.neg (.val (.call 11 [4,(.bi .len [1])]))) [.yS 44 ["word","number"] [(.aN (.str "road")),3]] []],.asg [5] (.kn 0),.dS [6,7] .enum [1] [.iff (.neg (.val (.call 12 [7]))) [.yS 44 ["word","number"] [(.aN (.str "rule")),6]] [],.expr (.call 10 [(.ks 7 1),(.call 13 [0,6]),5]),.asg [5] (.bin .add 5 (.bi .len [(.ks 7 1)]))],.ret (.aN (.bl true))]
def LF:Fu:=aj (cv (QA [])) 8 O_
abbrev QB(l:List Fu):=QA (LF::l)
def X2:List Str:=["_law_script","_law_k","_law_cell"]
def Vx:List S:=BY
def T1:Fu:=aj (cv (QB [])) 3 Vx
abbrev QC(l:List Fu):=QB (T1::l)
noncomputable def X3:List Str:=["_law_well_here","_law_many","_law_turn","_law_left","_law_here","_law_mixed"]
def Vy:List S:=wR
def T3:Fu:=aj (cv (QC [])) 6 Vy
abbrev Pa(l:List Fu):=QC (T3::l)
noncomputable def X4:List Str:=["_law_well_here","_law_machines","_law_roads_here","_law_many","_law_k","_law_one","_law_other"]
def Vz:List S:=uQ 16
def X5:Fu:=aj (cv (Pa [])) 7 Vz
abbrev QD(l:List Fu):=Pa (X5::l)
noncomputable def X6:List Str:=["_law_well_here","_law_some","_law_many","_law_k","_law_state"]
def VA:List S:=qF 16
def X7:Fu:=aj (cv (QD [])) 5 VA
abbrev QE(l:List Fu):=QD (X7::l)
noncomputable def X8:List Str:=["_law_well_here","_law_ways","_law_sends_here","_law_k","_law_road"]
def VB:List S:=uR 16
def X9:Fu:=aj (cv (QE [])) 5 VB
abbrev QF(l:List Fu):=QE (X9::l)
noncomputable def X_:List Str:=["_law_well_here","_law_some","_law_ways","_law_words","_law_moves_here","_law_state","_law_cause","_law_after","_law_sends_here","_law_word_here","_law_at"]
def VC:List S:=uS 16 19
def Yb:Fu:=aj (cv (QF [])) 11 VC
abbrev QG(l:List Fu):=QF (Yb::l)
noncomputable def Yc:List Str:=["_law_script","_law_well_here","_law_machines","_law_roads_here","_law_rules","_law_m","_law_some","_law_ways","_law_start"]
def VD:List S:=wU 15 16 17 18 20
def Yd:Fu:=aj (cv (QG [])) 9 VD
abbrev QH(l:List Fu):=QG (Yd::l)
def Ye:List Str:=["_law_thing","_law_low","_law_high"]
noncomputable def QI:List S:=[.ret (.cw [(.bi (.iJ .int) [0]),(.neg (.bi (.iJ .bool) [0])),(.chain .le .le 1 0 2)])]
def Yg:Fu:=aj (cv (QH [])) 3 QI
abbrev QJ(l:List Fu):=QH (Yg::l)
def Yh:List Str:=["_law_thing","_law_most"]
def QK:List S:=[.iff (.bU [(.neg (.val (.bi (.iJ .str) [0]))),(.neg (.val (.chain .le .le (.kn 1) (.bi .len [0]) 1)))]) [.ret (.aN (.bl false))] [],.ret (.cmp .ge (.bi .min1 [(.comp .seq [0] [1] none (.fV (.aN (.str "abcdefghijklmnopqrstuvwxyz")) 1) [none,none])]) (.kn 0))]
def Yi:Fu:=aj (cv (QJ [])) 2 QK
abbrev QL(l:List Fu):=QJ (Yi::l)
def Yj:List Str:=["_law_thing","_law_many"]
noncomputable def VF:List S:=[.ret (.cw [(.bi (.iJ .tuple) [0]),(.cmp .eq (.bi .len [0]) 1)])]
def Yk:Fu:=aj (cv (QL [])) 2 VF
abbrev QM(l:List Fu):=QL (Yk::l)
def Yl:List Str:=["_law_thing","_law_machines"]
noncomputable def QN:List S:=[.iff (.bU [(.neg (.val (.call 24 [0,(.kn 3)]))),(.neg (.val (.bi (.iJ .str) [(.ks 0 2)]))),(.val (.cmp .gB (.ks 0 2) (.tup [(.aN (.str "row")),(.aN (.str "heap"))])))]) [.ret (.aN (.bl false))] [],.iff (.bU [(.neg (.val (.call 22 [(.ks 0 0),(.kn 0),(.bin .sub 1 (.kn 1))]))),(.neg (.val (.call 22 [(.ks 0 1),(.kn 0),(.bin .sub 1 (.kn 1))])))]) [.ret (.aN (.bl false))] [],.ret (.cmp .ne (.ks 0 0) (.ks 0 1))]
def Ym:Fu:=aj (cv (QM [])) 2 QN
abbrev QO(l:List Fu):=QM (Ym::l)
noncomputable def Yn:List Str:=["_law_thing","_law_roads_here","_law_m","_law_send"]
def QP:List S:=[.iff (.bU [(.neg (.val (.call 24 [0,(.kn 5)]))),(.neg (.val (.bi (.iJ .str) [(.ks 0 1)]))),(.neg (.val (.bi (.iJ .tuple) [(.ks 0 3)])))]) [.ret (.aN (.bl false))] [],.iff (.bU [(.neg (.val (.call 22 [(.ks 0 0),(.kn 0),(.kn 99)]))),(.neg (.val (.call 22 [(.ks 0 2),(.kn 0),(.kn 99)]))),(.val (.cmp .gt (.bi .len [(.ks 0 3)]) (.kn 3)))]) [.ret (.aN (.bl false))] [],.dS [3] .seq [(.ks 0 3)] [.iff (.bU [(.neg (.val (.call 24 [3,(.kn 2)]))),(.neg (.val (.call 22 [(.ks 3 0),(.kn 0),(.bin .sub (.bi .len [1]) (.kn 1))]))),(.neg (.val (.call 23 [(.ks 3 1),(.kn 1)])))]) [.ret (.aN (.bl false))] [],.iff (.val (.cmp .ne (.sub (.sub 1 (.ks 3 0)) (.kn 0)) 2)) [.ret (.aN (.bl false))] []],.ret (.cw [(.bU [(.cmp .eq (.ks 0 1) (.aN (.str "own"))),(.call 23 [(.ks 0 1),(.kn 1)])]),(.bU [(.cmp .mq (.ks 0 4) (.aN .aK)),(.call 23 [(.ks 0 4),(.kn 8)])])])]
def Yo:Fu:=aj (cv (QO [])) 4 QP
abbrev QQ(l:List Fu):=QO (Yo::l)
noncomputable def Yp:List Str:=["_law_thing","_law_rules","_law_roads_here","_law_n","_law_many","_law_m","_law_rule","_law_k"]
def QR:List S:=[.iff (.bU [(.neg (.val (.call 24 [0,(.kn 2)]))),(.neg (.val (.bi (.iJ .tuple) [(.ks 0 0)]))),(.neg (.val (.bi (.iJ .tuple) [(.ks 0 1)])))]) [.ret (.tup [(.aN (.str "form")),(.kn 0)])] [],.asg [1,2] 0,.iff (.bU [(.neg (.val (.chain .le .le (.kn 1) (.bi .len [1]) (.kn 4)))),(.val (.cmp .gt (.bi .len [2]) (.kn 8)))]) [.ret (.tup [(.aN (.str "form")),(.kn 0)])] [],.dS [3] .fb [(.bi .len [2])] [.iff (.neg (.val (.call 25 [(.sub 2 3),(.bi .len [1])]))) [.ret (.tup [(.aN (.str "road")),3])] []],.asg [4] (.kn 0),.dS [5] .fb [(.bi .len [1])] [.asg [6] (.sub 1 5),.iff (.bU [(.neg (.val (.call 24 [6,(.kn 2)]))),(.neg (.val (.call 22 [(.ks 6 0),(.kn 0),(.kn 99)]))),(.neg (.val (.bi (.iJ .tuple) [(.ks 6 1)])))]) [.ret (.tup [(.aN (.str "rule")),5])] [],.iff (.val (.cmp .gt (.bi .len [(.ks 6 1)]) (.kn 30))) [.ret (.tup [(.aN (.str "rule")),5])] [],.dS [7] .fb [(.bi .len [(.ks 6 1)])] [.iff (.neg (.val (.call 26 [(.sub (.ks 6 1) 7),2,5]))) [.ret (.tup [(.aN (.str "move")),4])] [],.iff (.val (.cmp .isin (.gH (.sub (.ks 6 1) 7) none (some (.kn 2))) (.comp .seq [(.gH (.ks 6 1) none (some 7))] [1] none (.gH 1 none (some (.kn 2))) [none,none]))) [.ret (.tup [(.aN (.str "move")),4])] [],.asg [4] (.bin .add 4 (.kn 1))]],.ret (.aN .aK)]
def Yq:Fu:=aj (cv (QQ [])) 8 QR
abbrev QS(l:List Fu):=QQ (Yq::l)
noncomputable def Yr:List Str:=["_law_well_here","_law_part","_law_some"]
def QT:List S:=[.asg [2] (.lst [(.aN .aK),(.aN (.bl true)),(.aN (.bl false)),(.kn (-1)),(.kn 0),(.kn 1),(.kn 3),(.kn 8),(.kn 99),(.kn 100),(.bin .pow (.kn 10) (.kn 19)),(.aN (.str "")),(.aN (.str "own")),(.aN (.str "a")),(.aN (.str "A")),(.aN (.str "ab")),(.aN (.str "abcdefgh")),(.aN (.str "abcdefghi"))]),.asg [2] (.bin .add 2 (.lst [(.aN (.str "row")),(.aN (.str "heap")),(.aN (.str "rows")),(.aN (.str "a1")),(.tup []),(.lst []),(.tup [(.tup []),(.tup [])]),(.tup [(.kn 0),(.tup [])]),(.tup [(.kn 0),(.kn 1),(.aN (.str "row"))]),(.tup [(.kn 1),(.kn 1),(.aN (.str "heap"))])])),.asg [2] (.bin .add 2 (.lst [(.tup [(.kn 0),(.aN (.str "a"))]),(.tup [(.aN (.str "own")),(.kn 0)])])),.expr (.me .append 2 [(.tup [(.kn 0),(.aN (.str "own")),(.kn 0),(.tup []),(.aN .aK)])]),.iff (.val (.bi (.iJ .tuple) [1])) [.asg [2] (.bin .add 2 (.bin .mul (.lst [(.bi .list1 [1]),(.bin .add 1 (.tup [(.kn 0)])),(.gH 1 none (some (.kn (-1)))),(.gH 1 (some (.kn 1)) none),(.bin .add 1 (.gH 1 none (some (.kn 1)))),(.tup [1])]) (.kn 5)))] [],.iff (.cw [(.val (.bi (.iJ .int) [1])),(.neg (.val (.bi (.iJ .bool) [1])))]) [.asg [2] (.bin .add 2 (.bin .mul (.lst [(.bin .add 1 (.kn 1)),(.bin .sub 1 (.kn 1)),(.bi .str1 [1])]) (.kn 3)))] [],.ret (.sub 2 (.call 16 [0,(.bi .len [2])]))]
def Ys:Fu:=aj (cv (QS [])) 3 QT
abbrev GU(l:List Fu):=QS (Ys::l)
noncomputable def Yt:List Str:=["_law_well_here","_law_part","_law_deep","_law_at"]
noncomputable def LG:List S:=[.iff (.bU [(.neg (.val (.bi (.iJ .tuple) [1]))),(.val (.cmp .eq (.bi .len [1]) (.kn 0))),(.val (.cmp .eq 2 (.kn 0))),(.val (.cmp .eq (.call 16 [0,(.kn 6)]) (.kn 0)))]) [.ret (.call 28 [0,1])] [],.asg [3] (.call 16 [0,(.bi .len [1])]),.ret (.bin .add (.bin .add (.gH 1 none (some 3)) (.tup [(.call 29 [0,(.sub 1 3),(.bin .sub 2 (.kn 1))])])) (.gH 1 (some (.bin .add 3 (.kn 1))) none))]
def Yu:Fu:=BK (GU []) 4 LG 9
abbrev QU(l:List Fu):=GU (Yu::l)
noncomputable def Yv:List Str:=["_law_well_here","_law_form_here","_law_rules","_law_roads_here","_law_m","_law_start","_law_moves_here","_law_way","_law_many","_law_at","_law_more_here","_law_ahead","_law_road"]
def QV:List S:=[.asg [2,3] 1,.asg [4] (.call 16 [0,(.bi .len [2])]),.asg [5,6] (.sub 2 4),.asg [7] (.call 16 [0,(.kn 5)]),.iff (.val (.cmp .eq 7 (.kn 0))) [.ret (.tup [(.bin .add 2 (.bin .mul (.gH 2 none (some (.kn 1))) (.bin .sub (.kn 5) (.bi .len [2])))),3])] [],.iff (.val (.cmp .eq 7 (.kn 1))) [.ret (.tup [2,(.bin .add 3 (.bin .mul (.tup [(.tup [(.kn 0),(.kn 1),(.aN (.str "row"))])]) (.bin .sub (.kn 9) (.bi .len [3]))))])] [],.iff (.val (.cmp .eq 7 (.kn 2))) [.asg [8] (.bi .tuple1 [(.comp .fb [(.bin .sub (.kn 31) (.bi .len [6]))] [1] none (.tup [1,(.aN (.str "y")),(.kn 0),(.tup []),(.aN .aK)]) [none,none])]),.ret (.tup [(.bin .add (.bin .add (.gH 2 none (some 4)) (.tup [(.tup [5,(.bin .add 6 8)])])) (.gH 2 (some (.bin .add 4 (.kn 1))) none)),3])] [],.asg [9] (.call 16 [0,(.bin .add (.bi .len [6]) (.kn 1))]),.asg [10] (.tup [5,(.aN (.str "own")),5,(.tup []),(.aN .aK)]),.iff (.cw [(.val (.cmp .ne 6 (.tup []))),(.val (.cmp .eq 7 (.kn 3)))]) [.asg [10] (.bin .add (.gH (.sub 6 (.call 16 [0,(.bi .len [6])])) none (some (.kn 2))) (.tup [5,(.tup []),(.aN (.str "x"))]))] [],.iff (.cw [(.val (.cmp .ne 6 (.tup []))),(.val (.cmp .eq 7 (.kn 4)))]) [.asg [11] (.sub 6 (.call 16 [0,(.bi .len [6])])),.asg [12] (.call 16 [0,(.bi .max2 [(.kn 1),(.bi .len [3])])]),.asg [10] (.bin .add (.bin .add (.bin .add (.bin .add (.gH 11 none (some (.kn 1))) (.tup [(.aN (.str "y"))])) (.gH 11 (some (.kn 2)) (some (.kn 3)))) (.tup [(.bin .add (.ks 11 3) (.bin .mul (.tup [(.tup [12,(.aN (.str "a"))])]) (.bin .add (.kn 1) (.bin .mul (.kn 2) (.call 16 [0,(.kn 2)])))))])) (.gH 11 (some (.kn 4)) none))] [],.ret (.tup [(.bin .add (.bin .add (.gH 2 none (some 4)) (.tup [(.tup [5,(.bin .add (.bin .add (.gH 6 none (some 9)) (.tup [10])) (.gH 6 (some 9) none))])])) (.gH 2 (some (.bin .add 4 (.kn 1))) none)),3])]
def Yw:Fu:=aj (cv (QU [])) 13 QV
abbrev QW(l:List Fu):=QU (Yw::l)
def Yx:List Str:=["_law_thing","_law_told_here","e"]
noncomputable def QX:List S:=[.asg [1] (.tup []),.kH (.nI 1 14 [0]) "CutError" [(44,["word","number"])] 2 [.asg [1] (.tup [(.aN (.str "odd"))]),.iff (.cw [(.val (.ow 2 (.one "NoForm") [(44,true)])),(.val (.ow 2 .ve [(44,true)]))]) [.asg [1] (.tup [(.xf 2 "word"),(.xf 2 "number")])] [],.iff (.val (.ow 2 (.many ["NoCut","NoDeed","NoLine","NoNumbers","NoRow","NoRun","NoTaking","NoText","NoWorld","NoZigzag"]) [(44,false)])) [.asg [1] (.tup [(.aN (.str "odd"))])] []],.ret 1]
def Yy:Fu:=aj (cv (QW [])) 3 QX
abbrev QY(l:List Fu):=QW (Yy::l)
noncomputable def Yz:List Str:=["_law_thing","_law_due_here","_law_kept","_law_told_here"]
noncomputable def QZ:List S:=[.asg [1] (.call 27 [0]),.asg [2] (.bi .iI [0]),.asg [3] (.call 31 [0]),.iff (.val (.cmp .ne (.bi .iI [0]) 2)) [.ret (.aN (.bl false))] [],.iff (.val (.cmp .mq 1 (.aN .aK))) [.ret (.cw [(.cmp .eq (.bi .len [3]) (.kn 1)),(.fc false (.ks 3 0))])] [],.ret (.cmp .eq (.bi .iI [3]) (.bi .iI [1]))]
def YA:Fu:=aj (cv (QY [])) 4 QZ
abbrev Q0(l:List Fu):=QY (YA::l)
noncomputable def YB:List Str:=["_law_more_here","_law_roads_here","_law_sends_here","_law_moves_here","_law_rest"]
def Q2:List S:=[.asg [1] (.bin .add (.bin .mul (.tup [(.tup [(.kn 0),(.kn 1),(.aN (.str "row"))]),(.tup [(.kn 1),(.kn 0),(.aN (.str "heap"))])]) (.kn 4)) (.bin .mul (.tup [(.tup [(.kn 0),(.kn 1),(.aN (.str "heap"))])]) (.bi .mr [(.cmp .eq 0 (.kn 2))]))),.asg [2] (.bin .add (.tup [(.tup [(.kn 0),(.aN (.str "a"))]),(.tup [(.kn 2),(.aN (.str "b"))]),(.tup [(.kn 0),(.aN (.str "z"))])]) (.bin .mul (.tup [(.tup [(.kn 0),(.aN (.str "a"))])]) (.bi .mr [(.cmp .eq 0 (.kn 3))]))),.kG 3 (.comp .fb [(.bin .add (.kn 30) (.bi .mr [(.cmp .eq 0 (.kn 1))]))] [1] none (.tup [1,(.aN (.str "own")),(.kn 99),2,(.aN (.str "abcdefgh"))]) [none,none,some 2]),.asg [4] (.bin .mul (.tup [(.tup [(.kn 0),(.tup [])])]) (.bin .add (.kn 3) (.bi .mr [(.cmp .eq 0 (.kn 4))]))),.ret (.tup [(.bin .add (.tup [(.tup [(.kn 99),(.bi .tuple1 [3])])]) 4),1])]
def YC:Fu:=aj (cv (Q0 [])) 5 Q2
abbrev Q3(l:List Fu):=Q0 (YC::l)
noncomputable def YD:List Str:=["_law_script","_law_form_here","_law_k","_law_well_here","_law_bent_here","_law_turn","_law_thing"]
def Q4:List S:=[.asg [1] (.call 21 [0]),.iff (.bU [(.val (.cmp .gF (.call 27 [1]) (.aN .aK))),(.neg (.val (.call 32 [1])))]) [.ret (.aN (.bl false))] [],.iff (.val (.cmp .gF (.call 27 [(.call 33 [(.kn 0)])]) (.aN .aK))) [.ret (.aN (.bl false))] [],.iff (.neg (.val (.bi .all1 [(.comp .fb [(.kn 5)] [1] none (.call 32 [(.call 33 [1])]) [none,none])]))) [.ret (.aN (.bl false))] [],.dS [2] .fb [(.kn 16)] [.asg [3] (.call 15 [0,(.bin .add (.kn 6) 2)]),.asg [4] 1,.dS [5] .fb [(.bin .add (.kn 1) (.call 16 [3,(.kn 2)]))] [.iff (.cw [(.val (.cmp .mq (.call 27 [4]) (.aN .aK))),(.val (.cmp .eq (.call 16 [3,(.kn 3)]) (.kn 0)))]) [.asg [4] (.call 30 [3,4])] [.asg [4] (.call 29 [3,4,(.kn 7)])]],.iff (.neg (.val (.call 32 [4]))) [.ret (.aN (.bl false))] []],.dS [6] .seq [(.tup [(.aN .aK),(.tup []),(.tup [(.tup []),(.tup [])]),(.tup [(.tup [(.tup [(.kn 0),(.tup [])])]),(.tup [])]),(.lst [1]),(.bi .list1 [1]),(.tup [(.ks 1 0)]),(.kn 7),(.aN (.str "form"))])] [.iff (.neg (.val (.call 32 [6]))) [.ret (.aN (.bl false))] []],.ret (.aN (.bl true))]
def Pb:Fu:=aj (cv (Q3 [])) 7 Q4
noncomputable def gs:List (Str×Int):=[(("LONGEST_WORD" : Str),8),(("MOST_MOVES" : Str),30),(("MOST_ROADS" : Str),8),(("MOST_RULES" : Str),4),(("MOST_SENDS" : Str),3),(("STATES" : Str),100)]
noncomputable def fs:List (Str×Nat):=[(("is_whole" : Str),1),(("is_below" : Str),2),(("is_state" : Str),1),(("is_sign" : Str),1),(("is_word" : Str),1),(("is_tuple_of" : Str),2),(("is_tuple_to" : Str),2),(("is_form_shaped" : Str),1),(("is_send" : Str),2),(("is_move" : Str),2),(("ask_moves" : Str),3),(("is_road" : Str),2),(("is_rule_shaped" : Str),1),(("sends_of" : Str),2),(("right_form" : Str),1),(("_law_well" : Str),2),(("_law_draw" : Str),2),(("_law_roads" : Str),2),(("_law_states" : Str),1),(("_law_sends" : Str),2),(("_law_moves" : Str),3),(("_law_form" : Str),1),(("_law_whole" : Str),3),(("_law_word" : Str),2),(("_law_long" : Str),2),(("_law_is_road" : Str),2),(("_law_is_move" : Str),3),(("_law_due" : Str),1),(("_law_odd" : Str),2),(("_law_bent" : Str),3),(("_law_more" : Str),2),(("_law_told" : Str),1),(("_law_right" : Str),1),(("_law_widest" : Str),1),(("law" : Str),1)]
end br
end
section
namespace br
open L2 Ev
open PySem PySem.Spec PyProof.Rows
def tj(i:Int):Str:=Str.ofString (toString i)
def uY:List Str:=["","own","a","b","c","z","A","ab","abcdefgh","abcdefghi","row","heap","rows","a1","x","yes","y","form","road","rule","move"]
def At(B:Nat):D->Prop
 | .aK=>True
 | .bl _=>True
 | .int i=>i.natAbs<=B
 | .str s=>s∈uY\/∃i:Int,i.natAbs<=B/\s=tj i
 | _=>False
mutual
inductive Tg (M:ag) (B L:Nat):Nat->Nat->D->Prop
 | at (c h:Nat) (d:D) (a:At B d) (hc:300<=c):Tg M B L c h d
 | tup (c e h:Nat) (ds:List D) (t:Ts M B L c h ds) (hc:c+5<=e) (hl:ds.length<=L):Tg M B L e (h+1) (.tup ds)
 | lst (c e h n:Nat) (ds:List D) (hM:M[n]?=some (.lst ds)) (t:Ts M B L c h ds) (hc:c+5<=e) (hl:ds.length<=L):Tg M B L e (h+1) (.aC n)
inductive Ts (M:ag) (B L:Nat):Nat->Nat->List D->Prop
 | nil (c h:Nat):Ts M B L c h []
 | cons (c c1 c2 h:Nat) (d:D) (ds:List D) (t:Tg M B L c1 h d) (r:Ts M B L c2 h ds) (hc:c1+c2<=c):Ts M B L c h (d::ds)
end
section
variable {M M':ag} {B B' L L':Nat}
theorem At.mono{d:D}(a:At B d)(hb:B<=B'):At B' d:=by
 cases d with
 | int i=>exact bJ a hb
 | str s =>
  rcases a with a | ⟨i,h,e⟩
  ·exact .inl a
  ·exact .inr ⟨i,bJ h hb,e⟩
 | aK=>trivial
 | bl _=>trivial
 | tup _=>exact a
 | aC _=>exact a
 | ls _=>exact a
mutual
theorem Tg.mono(f:Ex M M')(hb:B<=B')(hL:L<=L'):∀{c h c' h':Nat}{d:D},Tg M B L c h d->c<=c'->h<=h'->Tg M' B' L' c' h' d
 | _,_,_,_,_,.at c h d a hc,e1,e2=>.at _ _ _ (a.mono hb) (bJ hc e1)
 | _,_,c',h',_,.tup c e h ds t hc hl,e1,e2=>by
  obtain⟨k,rfl⟩:∃k,h'=k+1:=⟨h'-1,∅⟩;exact .tup c c' k ds (Ts.mono f hb hL t (ar _) ∅) ∅ (bJ hl hL)
 | _,_,c',h',_,.lst c e h n ds hM t hc hl,e1,e2=>by
  obtain⟨k,rfl⟩:∃k,h'=k+1:=⟨h'-1,∅⟩;exact .lst c c' k n ds (Ex.get f hM) (Ts.mono f hb hL t (ar _) ∅) ∅ (bJ hl hL)
theorem Ts.mono(f:Ex M M')(hb:B<=B')(hL:L<=L'):∀{c h c' h':Nat}{ds:List D},Ts M B L c h ds->c<=c'->h<=h'->Ts M' B' L' c' h' ds
 | _,_,_,_,_,.nil c h,_,_=>.nil _ _
 | _,_,_,_,_,.cons c c1 c2 h d ds t r hc,e1,e2=>.cons _ c1 c2 _ d ds (Tg.mono f hb hL t (ar _) e2) (Ts.mono f hb hL r (ar _) e2) ∅
end
theorem Ts.app:∀{c1 c2 h:Nat}{ds es:List D},Ts M B L c1 h ds->Ts M B L c2 h es->Ts M B L (c1+c2) h (ds++es)
 | _,c2,_,_,_,.nil c h,k=>Ts.mono (Ex.refl M) (ar _) (ar _) k ∅ (ar _)
 | _,c2,_,_,_,.cons c a b h d ds t r hc,k=>.cons _ a (b+c2) h d _ t (Ts.app r k) ∅
theorem Ts.cut:∀{c h:Nat}{ds:List D}(n:Nat),Ts M B L c h ds->∃a b,a+b<=c/\Ts M B L a h (ds.take n)/\Ts M B L b h (ds.drop n)
 | c,h,ds,0,t=>⟨0,c,∅,.nil _ _,t⟩
 | _,_,_,n+1,.nil c h=>⟨0,0,∅,.nil _ _,.nil _ _⟩
 | _,_,_,n+1,.cons c a b h d ds t r hc=>by
  obtain⟨x,y,e,p,q⟩:=Ts.cut n r;exact⟨a+x,y,∅,.cons _ a x h d _ t p (ar _),q⟩
theorem Ts.mem:∀{c h:Nat}{ds:List D},Ts M B L c h ds->∀d∈ds,Tg M B L c h d
 | _,_,_,.nil c h,d,hd=>by cases hd
 | _,_,_,.cons c a b h x ds t r hc,d,hd=>by
  rcases cq.mp hd with z | z
  ·rw[z];exact Tg.mono (Ex.refl M) (ar _) (ar _) t ∅ (ar _)
  ·exact Tg.mono (Ex.refl M) (ar _) (ar _) (Ts.mem r d z) ∅ (ar _)
theorem Ts.at:∀{c h:Nat}{ds:List D}{n:Nat}{d:D},Ts M B L c h ds->ds[n]?=some d->∃a x b,a+x+b<=c/\Ts M B L a h (ds.take n)/\Tg M B L x h d/\Ts M B L b h (ds.drop (n+1))
 | _,_,_,n,d,.nil c h,e=>by simp at e
 | _,_,_,0,d,.cons c a b h x ds t r hc,e=>by
  have:x=d:=by simpa using e
  subst this;exact⟨0,a,b,∅,.nil _ _,t,r⟩
 | _,_,_,n+1,d,.cons c a b h x ds t r hc,e=>by
  obtain⟨p,q,s,k,k1,k2,k3⟩:=Ts.at (n:=n) r (by simpa using e);exact⟨a+p,q,s,∅,.cons _ a p h x _ t k1 (ar _),k2,k3⟩
theorem Tg.tupI{c h:Nat}{ds:List D}(t:Tg M B L c h (.tup ds)):∃e k,e+5<=c/\h=k+1/\Ts M B L e k ds/\ds.length<=L:=by
 cases t with
 | «at» _ _ _ a hc=>exact a.elim
 | tup e _ k _ t hc hl=>exact⟨e,k,hc,rfl,t,hl⟩
end
end br
end
section
namespace br
open L2 Ev
open PySem PySem.Spec PyProof.Rows
theorem jO{i:Int}{c:Nat}(h:c∈(tj i).cps.toList):c=45\/48<=c/\c<=57:=by
 refine Classical.byContradiction λq=>?_;exact int_text_free' c ⟨∅,∅⟩ i h
theorem uZ(i:Int):PyData.strOk (tj i)=true:=by
 unfold PyData.strOk;rw[Hu];intro c hc;have:=jO (i:=i) (c:=c) (by simpa using hc);exact bB ∅
theorem qH{i:Int}(h:i.natAbs<10 ^ 20):(tj i).length<=22:=by
 have:=int_text_length_le10 (a:=i) (k:=20) (by decide) h;unfold tj;rw[PySem.ofString_length];omega
theorem Pc:∀q∈[34,39],∀c∈[45,48,49,50,51,52,53,54,55,56,57],(Builtin.Str.reprChar q c).all (λx=>decide (x<1114112))=true:=⋯
theorem Ca{q:Nat}(hq:q∈[34,39]):∀(l:List Nat)(aI:Array Nat),(∀c∈l,c=45\/48<=c/\c<=57)->aI.all (λx=>decide (x<1114112))=true->(l.foldl (λout c=>out++(Builtin.Str.reprChar q c).toArray) aI).all (λx=>decide (x<1114112))=true
 | [],aI,_,h=>h
 | c::r,aI,hl,h=>by
  rw[Dc];refine Ca hq r _ (λd hd=>hl d (dB _ hd)) ?_;rw[Array.all_append,h,zA];have hc:=hl c dD;have:c∈[45,48,49,50,51,52,53,54,55,56,57]:=by simp only[cq,k_,j5];omega
  have:=Pc q hq c this;simpa using this
theorem Kw{i:Int}(h:i.natAbs<10 ^ 20):Tx 298 (reprText (tj i)):=by
 constructor
 ·have:=StrLaws.reprText_len (tj i) λc hc=>by have:=jO hc;omega
  have:=qH h;omega
 ·have hq:reprQuote (tj i)∈[34,39]:=by unfold reprQuote;split<;>simp
  unfold PyData.strOk reprText;show((((tj i).cps.foldl (λout c=>out++(Builtin.Str.reprChar (reprQuote (tj i)) c).toArray) #[reprQuote (tj i)]).push (reprQuote (tj i))).all λx=>decide (x<1114112))=true;have Lq:reprQuote (tj i)<1114112:=by simp only[cq,k_,j5]at hq;omega
  rw[Array.all_push,<- Array.foldl_toList,Ca hq _ _ (λc hc=>jO hc) (by simpa using Lq)];simpa using Lq
theorem lG{s:Str}(h:s∈uY):PyData.strOk s=true/\Tx 298 (reprText s)/\s.length<=22/\(s.cps.all λc=>decide (c<128))=true:=by
 simp only[uY,cq,k_,j5]at h;rcases h with rfl | rfl | rfl | rfl | rfl | rfl | rfl | rfl | rfl | rfl | rfl | rfl | rfl | rfl | rfl | rfl | rfl | rfl | rfl | rfl | rfl<;>exact⟨⋯,⟨⋯,⋯⟩,⋯,⋯⟩
theorem FG{i:Int}:((tj i).cps.all λc=>decide (c<128))=true:=by
 rw[Hu];intro c hc;have:=jO (i:=i) (c:=c) (by simpa using hc);exact bB ∅
end br
end
section
namespace br
open L2 Ev
open PySem PySem.Spec PyProof.Rows
def ln(l:List Str):Nat:=(l.map λx=>x.length+2).sum
theorem lH{x:Str}{l:List Str}:ln (x::l)=x.length+2+ln l:=by unfold ln;simp
theorem GV:∀{l:List Str},(∀x∈l,PyData.strOk x=true)->Tx (ln l) ((Str.ofString ", ").join l)
 | [],_=>by rw[Str.join.eq_1];exact⟨jk _,⋯⟩
 | [x],h=>by rw[Str.join.eq_2];exact⟨by rw[lH];omega,h x dD⟩
 | x::y::r,h=>by
  rw[Str.join.eq_3 _ _ _ (λq=>by cases q)];have h1:Tx x.length x:=⟨ar _,h x dD⟩;have h2:=GV (l:=y::r) λz hz=>h z (dB _ hz);have h3:Tx 2 (Str.ofString ", "):=⟨⋯,⋯⟩;exact((h1.app h3).app h2).mono (by rw[lH (x:=x)];omega)
theorem T4{l:List Str}(h:∀x∈l,PyData.strOk x=true):Tx (ln l+3) (tupleText l):=by
 unfold tupleText;have h1:Tx 1 (Str.ofString "("):=⟨⋯,⋯⟩
 have h2:Tx 2 (Str.ofString (if (l.length==1)=true then ",)" else ")")):=by
  split<;>exact⟨⋯,⋯⟩
 exact((h1.app (GV h)).app h2).mono ∅
theorem GW:∀{l:List Str}{n a:Nat}{x:Str},Tx a x->(∀x∈l,PyData.strOk x=true)->Tx (a+ln l) (textFrom n x l)
 | [],_,_,_,h,_=>by rw[textFrom.eq_1];exact h.mono (Nat.le_add_right _ _)
 | t::ts,n,a,x,h,k=>by
  rw[textFrom.eq_2];have h2:Tx 2 (Str.ofString (if n>0 then ", " else "")):=by split<;>exact⟨⋯,⋯⟩
  have h3:Tx t.length t:=⟨ar _,k t dD⟩;exact(GW (l:=ts) (n:=n+1) ((h.app h2).app h3) λz hz=>k z (dB _ hz)).mono (by rw[lH];omega)
theorem T5{l:List Str}(h:∀x∈l,PyData.strOk x=true):Tx (ln l+2) (listText l):=by
 unfold listText;have h1:Tx 1 (Str.ofString "["):=⟨⋯,⋯⟩;have h2:Tx 1 (Str.ofString "]"):=⟨⋯,⋯⟩;exact((GW h1 h).app h2).mono ∅
theorem Pd{B:Nat}{d:D}(hB:B<10 ^ 20)(a:At B d):∃p:PyData,(∀M n,cL M n d=some p)/\p.canLay0=true/\p.showable=true/\p.depth<=0/\Tx 298 p.shown:=by
 cases d with
 | aK=>exact⟨.none,λM n=>by cases n<;>(unfold cL;rfl),PyData.canLay0.eq_1,PyData.showable.eq_1,xV PyData.depth.eq_4,by rw[PyData.shown.eq_1];exact⟨⋯,⋯⟩⟩
 | bl b =>
  refine⟨.bool b,λM n=>by cases n<;>(unfold cL;rfl),?_⟩;cases b<;>exact⟨⋯,⋯,⋯,⋯,⋯⟩
 | int i =>
  have a:i.natAbs<=B:=a;have hn:i.natAbs<10 ^ 20:=∅
  have T6:i.natAbs.log2<1920:=by
   by_cases h0:i.natAbs=0
   ·rw[h0];decide
   ·have:i.natAbs<2 ^ 1920:=ft hn (by decide);exact(Nat.log2_lt h0).mpr this
  refine⟨.int i,λM n=>by cases n<;>(unfold cL;rfl),PyData.canLay0.eq_3 i,?_,xV (PyData.depth.eq_6 i),?_⟩
  ·rw[PyData.showable.eq_4];exact bB T6
  ·rw[PyData.shown.eq_3];exact⟨bJ (qH hn) (by decide),uZ i⟩
 | str s =>
  have q:PyData.strOk s=true/\Tx 298 (reprText s):=by
   rcases a with a | ⟨i,h,rfl⟩
   ·exact⟨(lG a).1,(lG a).2.1⟩
   ·exact⟨uZ i,Kw ∅⟩
  exact⟨.str s,λM n=>by cases n<;>(unfold cL;rfl),(PyData.canLay0.eq_4 s).trans q.1,PyData.showable.eq_3 s,xV (PyData.depth.eq_7 s),by rw[PyData.shown.eq_4];exact q.2⟩
 | tup _=>exact a.elim
 | aC _=>exact a.elim
 | ls _=>exact a.elim
section
variable {M:ag} {B L:Nat}
mutual
theorem w_(hB:B<10 ^ 20):∀{c h:Nat}{d:D},Tg M B L c h d->∃p:PyData,(∀M' n,Ex M M'->h<=n->cL M' n d=some p)/\p.canLay0=true/\p.showable=true/\p.depth<=h/\p.shown.length+2<=c/\PyData.strOk p.shown=true
 | _,_,_,.at c h d a hc=>by
  obtain⟨p,e,q1,q2,q3,q4⟩:=Pd hB a;exact⟨p,λM' n _ _=>e M' n,q1,q2,bJ q3 (jk _),by have:=q4.1;omega,q4.2⟩
 | _,_,_,.tup c e h ds t hc hl=>by
  obtain⟨ps,es,a1,a2,a3,a4,a5⟩:=Cb hB t;refine⟨.tuple ps,λM' n f hn=>?_,(PyData.canLay0.eq_6 ps).trans a1,(PyData.showable.eq_6 ps).trans a2,by rw[PyData.depth.eq_2];omega,?_⟩
  ·obtain⟨m,rfl⟩:∃m,n=m+1:=⟨n-1,∅⟩;unfold cL;rw[es M' m f ∅];rfl
  ·rw[PyData.shown.eq_6];have:=T4 a5;exact⟨by have:=this.1;omega,this.2⟩
 | _,_,_,.lst c e h k ds hM t hc hl=>by
  obtain⟨ps,es,a1,a2,a3,a4,a5⟩:=Cb hB t;refine⟨.list ps,λM' n f hn=>?_,(PyData.canLay0.eq_5 ps).trans a1,(PyData.showable.eq_5 ps).trans a2,by rw[PyData.depth.eq_1];omega,?_⟩
  ·obtain⟨m,rfl⟩:∃m,n=m+1:=⟨n-1,∅⟩;unfold cL;simp only[Ex.get f hM];rw[es M' m f ∅];rfl
  ·rw[PyData.shown.eq_5];have:=T5 a5;exact⟨by have:=this.1;omega,this.2⟩
theorem Cb(hB:B<10 ^ 20):∀{c h:Nat}{ds:List D},Ts M B L c h ds->∃ps:List PyData,(∀M' n,Ex M M'->h<=n->bj M' n ds=some ps)/\PyData.canLayAll0 ps=true/\PyData.showableAll ps=true/\PyData.depthAll ps<=h/\ln (PyData.shownAll ps)<=c/\∀x∈PyData.shownAll ps,PyData.strOk x=true
 | _,_,_,.nil c h=>⟨[],λM' n _ _=>by unfold bj;rfl,PyData.canLayAll0.eq_1,PyData.showableAll.eq_1,by rw[PyData.depthAll.eq_1];omega,by rw[PyData.shownAll.eq_1];exact jk _,by rw[PyData.shownAll.eq_1];intro x h;cases h⟩
 | _,_,_,.cons c c1 c2 h d ds t r hc=>by
  obtain⟨p,e,b1,b2,b3,b4,b5⟩:=w_ hB t;obtain⟨ps,es,a1,a2,a3,a4,a5⟩:=Cb hB r;refine⟨p::ps,λM' n f hn=>by unfold bj;rw[e M' n f hn,es M' n f hn],by rw[PyData.canLayAll0.eq_2,a1,b1];rfl,by rw[PyData.showableAll.eq_2,a2,b2];rfl,by rw[PyData.depthAll.eq_2];omega,by rw[PyData.shownAll.eq_2,lH];omega,?_⟩;rw[PyData.shownAll.eq_2];intro x hx;rcases cq.mp hx with rfl | hx
  ·exact b5
  ·exact a5 x hx
end
theorem xg{c h:Nat}{d:D}(hB:B<10 ^ 20)(t:Tg M B L c h d)(hc:c<=4000000)(hh:h<=30):∃x,PyData.strOk x=true/\∀M',Ex M M'->gI .iI [.d d] M'=.ok (.d (.str x)) M':=by
 obtain⟨p,e,q1,q2,q3,q4,q5⟩:=w_ hB t;refine⟨p.shown,q5,λM' f=>?_⟩;unfold gI;have:jw M' (.d d)=some p:=e M' 30 f hh;simp only[this];rw[aU ⟨q2,∅,bJ (show p.shown.length<=4000000 by omega) (by decide)⟩]
end
end br
end
section
namespace br
open L2 Ev
open PySem PySem.Spec PyProof.Rows
def yZ:D->Bool
 | .tup _=>true
 | _=>false
noncomputable def Nl(M:ag):D->Prop
 | .ls _=>False
 | .aC n=>∃ds,M[n]?=some (.lst ds)
 | _=>True
section
variable {M:ag} {d:D} {B L c h:Nat}
theorem Tg.nl(t:Tg M B L c h d):Nl M d:=by
 cases t with
 | «at» _ _ _ a _=>cases d<;>first | trivial | exact a.elim
 | tup=>trivial
 | lst _ _ _ n ds hM=>exact⟨ds,hM⟩
theorem tq(x:Nl M d):gI (.iJ .tuple) [.d d] M=.ok (.d (.bl (yZ d))) M:=by
 cases d with
 | aC n=>obtain⟨ds,hM⟩:=x;unfold gI;simp only[yF,hM];rfl
 | ls _=>exact x.elim
 | _=>rfl
theorem Kx(x:Nl M d):gI (.iJ .int) [.d d] M=.ok (.d (.bl (Vw d||XS d))) M:=by
 cases d with
 | aC n=>obtain⟨ds,hM⟩:=x;unfold gI;simp only[yF,hM];rfl
 | ls _=>exact x.elim
 | _=>rfl
theorem Cc(x:Nl M d):gI (.iJ .str) [.d d] M=.ok (.d (.bl (TZ d))) M:=by
 cases d with
 | aC n=>obtain⟨ds,hM⟩:=x;unfold gI;simp only[yF,hM];rfl
 | ls _=>exact x.elim
 | _=>rfl
theorem Tg.dk{ds:List D}(t:Tg M B L c h (.tup ds))(hd:d∈ds):Tg M B L c h d:=by
 obtain⟨e,k,h1,h2,q,_⟩:=t.tupI;exact Tg.mono (Ex.refl M) (ar _) (ar _) (q.mem d hd) ∅ ∅
theorem Tg.ln{ds:List D}(t:Tg M B L c h (.tup ds)):ds.length<=L:=by
 obtain⟨e,k,h1,h2,q,l⟩:=t.tupI;exact l
theorem Tg.num{i:Int}(t:Tg M B L c h (.int i)):i.natAbs<=B:=by
 cases t with
 | «at» _ _ _ a _=>exact a
end
noncomputable def Tz(M:ag)(d:D):Prop:=∃B L c h,Tg M B L c h d/\B<10 ^ 20/\L<=60/\h<=30
section
variable {M M':ag} {d:D} {ds:List D}
theorem Tz.nl(t:Tz M d):Nl M d:=by obtain⟨B,L,c,h,t,_⟩:=t;exact t.nl
theorem Tz.dk(t:Tz M (.tup ds))(hd:d∈ds):Tz M d:=by obtain⟨B,L,c,h,t,q⟩:=t;exact⟨B,L,c,h,t.dk hd,q⟩
theorem Tz.ln(t:Tz M (.tup ds)):ds.length<=60:=by obtain⟨B,L,c,h,t,_,q,_⟩:=t;exact bJ t.ln q
theorem Tz.ex(t:Tz M d)(f:Ex M M'):Tz M' d:=by obtain⟨B,L,c,h,t,q⟩:=t;exact⟨B,L,c,h,Tg.mono f (ar _) (ar _) t (ar _) (ar _),q⟩
theorem Tz.st{s:Str}(t:Tz M (.str s)):PyData.strOk s=true/\s.length<=22/\(s.cps.all λc=>decide (c<128))=true:=by
 obtain⟨B,L,c,h,t,hB,_⟩:=t
 cases t with
 | «at» _ _ _ a _ =>
  rcases a with a | ⟨i,q,rfl⟩
  ·exact⟨(lG a).1,(lG a).2.2⟩
  ·exact⟨uZ i,qH ∅,FG⟩
theorem Tz.py(t:Tz M d):∃p,cL M 30 d=some p/\SeqAt.shaped p=true/\(∀w:Str,PyData.eqv p (.str w)=eJ w d)/\∀w:Str,PyData.eqv (.str w) p=eJ w d:=by
 obtain⟨B,L,c,h,t,hB,_,hh⟩:=t;obtain⟨p,e,q1,q2,q3,q4,q5⟩:=w_ hB t;have e:=e M 30 (Ex.refl M) hh;refine⟨p,e,?_,?_⟩
 ·unfold SeqAt.shaped;rw[q1,bB (show p.depth<=64 by omega)];rfl
 ·cases d with
  | aK=>unfold cL at e;cases e;exact⟨λw=>by simp[PyData.eqv,eJ],λw=>by simp[PyData.eqv,eJ]⟩
  | bl b=>unfold cL at e;cases e;exact⟨λw=>by simp[PyData.eqv,eJ],λw=>by simp[PyData.eqv,eJ]⟩
  | int i=>unfold cL at e;cases e;exact⟨λw=>by simp[PyData.eqv,eJ],λw=>by simp[PyData.eqv,eJ]⟩
  | str s=>unfold cL at e;cases e;exact⟨λw=>lF,λw=>lF.trans (Bool.beq_comm ..)⟩
  | tup ds =>
   unfold cL at e
   cases hq:bj M 29 ds with
   | none=>rw[hq]at e;cases e
   | some ps=>rw[hq]at e;cases e;exact⟨λw=>by simp[PyData.eqv,eJ],λw=>by simp[PyData.eqv,eJ]⟩
  | aC n =>
   obtain⟨ds,hM⟩:=t.nl;unfold cL at e;rw[hM]at e;dsimp only at e
   cases hq:bj M 29 ds with
   | none=>rw[hq]at e;cases e
   | some ps=>rw[hq]at e;cases e;exact⟨λw=>by simp[PyData.eqv,eJ],λw=>by simp[PyData.eqv,eJ]⟩
  | ls _=>exact(t.nl).elim
theorem Pe(t:Tz M d){w:Str}(hw:PyData.strOk w=true):bp .ne (.d d) (.d (.str w)) M=.ok (!eJ w d) M:=by
 obtain⟨p,e,q,k,_⟩:=t.py;have e:jw M (.d d)=some p:=e;unfold bp
 try simp only[e,qD,q,kM hw,lb,dE,k]
theorem Pf(t:Tz M d){w:Str}(hw:PyData.strOk w=true):bp .eq (.d d) (.d (.str w)) M=.ok (eJ w d) M:=by
 obtain⟨p,e,q,k,_⟩:=t.py;have e:jw M (.d d)=some p:=e;unfold bp
 try simp only[e,qD,q,kM hw,lb,dE,k]
theorem GX:bj M 30 [.str "row",.str "heap"]=some [.str "row",.str "heap"]:=by
 unfold bj cL bj cL bj;rfl
theorem Pg(t:Tz M d):bp .isin (.d d) (.d (.tup [.str "row",.str "heap"])) M=.ok (eJ "row" d||eJ "heap" d) M:=by
 obtain⟨p,e,q,_,k⟩:=t.py;have e:jw M (.d d)=some p:=e;have sh:([PyData.str "row",.str "heap"]).all SeqAt.shaped=true:=⋯;unfold bp;simp only[e,bD,GX,q,sh,lb,dE,gm,k,xR]
theorem Ph(t:Tz M d):bp .gB (.d d) (.d (.tup [.str "row",.str "heap"])) M=.ok (!(eJ "row" d||eJ "heap" d)) M:=by
 obtain⟨p,e,q,_,k⟩:=t.py;have e:jw M (.d d)=some p:=e;have sh:([PyData.str "row",.str "heap"]).all SeqAt.shaped=true:=⋯;unfold bp;simp only[e,bD,GX,q,sh,lb,dE,gm,k,xR]
end
noncomputable def eR(lo hi:Int):D->Bool
 | .int i=>decide (lo<=i)&&decide (i<hi)
 | _=>false
noncomputable def YE(s:Str):Bool:=(((s.length:Nat):Int)==1)&&((!decide (s.cps.toList<("a" : Str).cps.toList)) && !decide (("z" : Str).cps.toList<s.cps.toList))
def gK:D->Bool
 | .str s=>YE s
 | _=>false
def gG(most:Int):D->Bool
 | .str s=>(decide ((1:Int)<=s.length)&&decide ((s.length:Int)<=most))&&(dI s).all gK
 | _=>false
noncomputable def jg(n:Int):D->Bool
 | .tup ds=>((ds.length:Nat):Int)==n
 | _=>false
noncomputable def kN(n:Int):D->Bool
 | .tup ds=>decide (((ds.length:Nat):Int)<=n)
 | _=>false
def xh:D->Bool
 | .tup [a,b]=>kN 4 a&&(!jg 0 a)&&kN 8 b
 | _=>false
noncomputable def y_:D->D->Bool
 | .int i,.int j=>!(i==j)
 | _,_=>false
def tS(n:Int):D->Bool
 | .tup [a,b,k]=>(eR 0 n a&&eR 0 n b)&&(y_ a b&&(eJ "row" k||eJ "heap" k))
 | _=>false
noncomputable def Q5(ns:List Int):D->Bool
 | .int i=>decide (i∈ns)
 | _=>false
def kY(ns:List Int):D->Bool
 | .tup [a,b]=>Q5 ns a&&gK b
 | _=>false
noncomputable def qI(f:D->Bool):D->Bool
 | .tup ds=>ds.all f
 | _=>false
def nM(ns:List Int):D->Bool
 | .tup [s,c,a,sd,w]=>((eR 0 100 s&&eR 0 100 a)&&(eJ "own" c||gK c))&&((kN 3 sd&&qI (kY ns) sd)&&(fB w||gG 8 w))
 | _=>false
def y0:D->Bool
 | .tup [s,mv]=>eR 0 100 s&&kN 30 mv
 | _=>false
def qJ(F:Fn):Prop:=∀(M:ag)(x:D),Nl M x->aL (F [x] M) λr M'=>M=M'/\r=.d (.bl (Vw x))
theorem Ky{G:a9}:qJ (aj G 1 b0):=by
 intro M x h;rw[bz];show eF G b0 [some x] M _ _ _ _;nofun;rw[Kx h];cases x<;>first | exact h.elim | (nofun;first | exact⟨rfl,rfl⟩ | (rw[YF h];exact⟨rfl,rfl⟩))
def qK(F:Fn):Prop:=∀(M:ag)(x:D)(n:Int),Nl M x->aL (F [x,.int n] M) λr M'=>M=M'/\r=.d (.bl (eR 0 n x))
theorem Kz{G:a9}(hW:qJ (G 0)):qK (aj G 2 b1):=by
 intro M x n h;rw[bz];show eF G b1 [some x,some (.int n)] M _ _ _ _;nofun;refine(hW M x h).imp ?_;rintro r M2 ⟨rfl,rfl⟩
 cases x with
 | int i =>
  nofun;by_cases h0:(0:Int)<=i
  ·rw[bB h0];nofun;refine⟨rfl,?_⟩;show W.d (D.bl (decide (i<n)))=W.d (D.bl (decide (0<=i)&&decide (i<n)));rw[bB h0,zA]
  ·rw[bx h0];nofun;refine⟨rfl,?_⟩;show W.d (D.bl false)=W.d (D.bl (decide (0<=i)&&decide (i<n)));rw[bx h0,lM]
 | _=>first | exact h.elim | (nofun;exact⟨rfl,rfl⟩)
def qL(F:Fn):Prop:=∀(M:ag)(x:D),Nl M x->aL (F [x] M) λr M'=>M=M'/\r=.d (.bl (eR 0 100 x))
theorem KA{G:a9}(hB:qK (G 1)):qL (aj G 1 b2):=by
 intro M x h;rw[bz];show eF G b2 [some x] M _ _ _ _;nofun;exact hB M x 100 h
theorem len_str{M:ag}{s:Str}(h:s.length<=sizeLine):gI .len [.d (.str s)] M=.ok (.d (.int s.length)) M:=by
 unfold gI bD;simp only[];rw[aU h]
def Sh:D->Prop
 | .str s=>s.length<=1000
 | _=>True
theorem Tz.sh{M:ag}{d:D}(t:Tz M d):Sh d:=by
 cases d with
 | str s=>exact bJ t.st.2.1 (by decide)
 | _=>trivial
def tB(F:Fn):Prop:=∀(M:ag)(x:D),Nl M x->Sh x->aL (F [x] M) λr M'=>M=M'/\r=.d (.bl (gK x))
theorem Pj{G:a9}:tB (aj G 1 b3):=by
 intro M x h hs;rw[bz];show eF G b3 [some x] M _ _ _ _;nofun;rw[Cc h]
 cases x with
 | str s =>
  nofun;rw[len_str (af hs)];nofun;have e:gK (.str s)=((((s.length:Nat):Int)==1)&&((!decide (s.cps.toList<("a" : Str).cps.toList)) && !decide (("z" : Str).cps.toList<s.cps.toList))):=rfl;rw[e]
  cases q1:(((s.length:Nat):Int)==1)with
  | false=>exact⟨rfl,rfl⟩
  | true =>
   nofun
   cases q2:(!decide (s.cps.toList<("a" : Str).cps.toList))with
   | false=>nofun;exact⟨rfl,rfl⟩
   | true=>nofun;exact⟨rfl,rfl⟩
 | _=>first | exact h.elim | (nofun;exact⟨rfl,rfl⟩)
theorem xj{α:Type}{f:α->Bool}:∀l:List α,si (l.map λx=>D.bl (f x))=some (l.map f)
 | []=>rfl
 | x::l=>by
  show(si (l.map λx=>D.bl (f x))).map (f x::·)=_;rw[xj l];rfl
theorem all_map{M:ag}{α:Type}{f:α->Bool}{l:List α}:gI .all1 [.lv (l.map λx=>D.bl (f x))] M=.ok (.d (.bl (l.all f))) M:=by
 unfold gI bD;simp only[xj];rw[List.all_map];rfl
theorem qM{α β:Type}{f:α->β}(l:List α):l.filterMap (λx=>some (f x))=l.map f:=by
 induction l with
 | nil=>rfl
 | cons x l ih=>rw[xB,ih];rfl
theorem xk{M:ag}{s:Str}(h:(s.cps.all λc=>decide (c<128))=true):jy .seq [.d (.str s)] M=.ok (.items (dI s)) M:=by
 unfold jy;exact aU h
theorem u4{s:Str}{d:D}(h:d∈dI s):∃c,d=.str ⟨#[c]⟩/\c∈s.cps.toList:=by
 unfold dI at h;obtain⟨c,hc,rfl⟩:=iS.mp h;exact⟨c,rfl,hc⟩
theorem qN{s:Str}:(dI s).length=s.length:=by unfold dI;rw[cM];rfl
def Cd(F:Fn):Prop:=∀(M:ag)(x:D),Tz M x->aL (F [x] M) λr M'=>r=.d (.bl (gG 8 x))/\Ex M M'
theorem Pk{G:a9}(hS:tB (G 3)):Cd (aj G 1 b4):=by
 intro M x t;have h:=t.nl;rw[bz];show eF G b4 [some x] M _ _ _ _;nofun;rw[Cc h]
 cases x with
 | str s =>
  obtain⟨_,h2,h3⟩:=t.st;have e:gG 8 (.str s)=((decide ((1:Int)<=s.length)&&decide ((s.length:Int)<=8))&&(dI s).all gK):=rfl;rw[e];clear e;nofun;rw[len_str (af (bJ h2 (by decide)))];nofun
  have eY:eF G [.ret (.bi .all1 [(.comp .seq [(.eO 0)] [1] none (.call 3 [(.eO 1)]) [none,none])])] [some (.str s)] M (λ_ M'=>W.d D.aK=.d (.bl ((dI s).all gK))/\Ex M M') (λr M'=>r=.d (.bl ((dI s).all gK))/\Ex M M') (λ_ _=>False) (λ_ _=>False):=by
   nofun;rw[xk h3];nofun;refine wN (ds:=dI s) (λx=>some (.bl (gK x))) (by decide) jN (af (by rw[qN];omega)) ?_ ?_ rfl
   ·intro i M' d hd g;nofun;obtain⟨c,rfl,_⟩:=u4 (dC hd);refine(hS M' (.str ⟨#[c]⟩) trivial (show(1:Nat)<=1000 by decide)).imp ?_;rintro r M2 ⟨rfl,rfl⟩;nofun;exact⟨rfl,g⟩
   ·intro M' g;rw[qM];nofun;rw[all_map];nofun;exact⟨rfl,g⟩
  by_cases k1:(1:Int)<=s.length
  ·rw[bB k1];nofun;by_cases k2:(s.length:Int)<=8
   ·rw[bB k2];exact eY
   ·rw[bx k2];nofun;exact⟨rfl,Ex.refl M⟩
  ·rw[bx k1];nofun;exact⟨rfl,Ex.refl M⟩
 | _=>first | exact h.elim | (nofun;exact⟨rfl,Ex.refl M⟩)
def fh(F:Fn):Prop:=∀(M:ag)(x:D)(n:Int),Nl M x->aL (F [x,.int n] M) λr M'=>M=M'/\r=.d (.bl (jg n x))
theorem Ce{G:a9}:fh (aj G 2 b5):=by
 intro M x n h;rw[bz];show eF G b5 [some x,some (.int n)] M _ _ _ _;nofun;rw[tq h]
 cases x with
 | tup ds=>nofun;exact⟨rfl,rfl⟩
 | _=>first | exact h.elim | (nofun;exact⟨rfl,rfl⟩)
def mV(F:Fn):Prop:=∀(M:ag)(x:D)(n:Int),Nl M x->aL (F [x,.int n] M) λr M'=>M=M'/\r=.d (.bl (kN n x))
theorem KB{G:a9}:mV (aj G 2 b6):=by
 intro M x n h;rw[bz];show eF G b6 [some x,some (.int n)] M _ _ _ _;nofun;rw[tq h]
 cases x with
 | tup ds=>nofun;exact⟨rfl,rfl⟩
 | _=>first | exact h.elim | (nofun;exact⟨rfl,rfl⟩)
theorem qO{x:D}(h:jg 2 x=true):∃a b,x=.tup [a,b]:=by
 cases x with
 | tup ds =>
  have hl:ds.length=2:=by have:=eq_of_beq (show(((ds.length:Nat):Int)==2)=true from h);omega
  rcases ds with _|⟨a,_|⟨b,_|⟨e,r⟩⟩⟩<;>first | (simp at hl;done) | exact⟨_,_,rfl⟩
 | _=>cases h
theorem KC{x:D}(h:jg 3 x=true):∃a b c,x=.tup [a,b,c]:=by
 cases x with
 | tup ds =>
  have hl:ds.length=3:=by have:=eq_of_beq (show(((ds.length:Nat):Int)==3)=true from h);omega
  rcases ds with _|⟨a,_|⟨b,_|⟨e,_|⟨f,r⟩⟩⟩⟩<;>first | (simp at hl;done) | exact⟨_,_,_,rfl⟩
 | _=>cases h
theorem KD{x:D}(h:jg 5 x=true):∃a b c d e,x=.tup [a,b,c,d,e]:=by
 cases x with
 | tup ds =>
  have hl:ds.length=5:=by have:=eq_of_beq (show(((ds.length:Nat):Int)==5)=true from h);omega
  rcases ds with _|⟨a,_|⟨b,_|⟨c,_|⟨d,_|⟨e,_|⟨f,r⟩⟩⟩⟩⟩⟩<;>first | (simp at hl;done) | exact⟨_,_,_,_,_,rfl⟩
 | _=>cases h
end br
end
section
namespace br
open L2 Ev
open PySem PySem.Spec PyProof.Rows
def qP(F:Fn):Prop:=∀(M:ag)(x:D),Tz M x->aL (F [x] M) λr M'=>M=M'/\r=.d (.bl (xh x))
theorem u5{x:D}(h:jg 2 x=false):xh x=false:=by
 cases x with
 | tup ds=>rcases ds with _|⟨a,_|⟨b,_|⟨e,r⟩⟩⟩<;>first | rfl | cases h
 | _=>rfl
theorem FH{G:a9}(hT:fh (G 5))(hM:mV (G 6)):qP (aj G 1 b7):=by
 intro M x t;rw[bz];show eF G b7 [some x] M _ _ _ _;nofun;refine(hT M x _ t.nl).imp ?_;rintro r M2 ⟨rfl,rfl⟩
 cases q:jg 2 x with
 | false=>rw[u5 q];nofun;exact⟨rfl,rfl⟩
 | true =>
  obtain⟨a,b,rfl⟩:=qO q;have ta:=t.dk (d:=a) (by simp);have tb:=t.dk (d:=b) (by simp);nofun;refine(hM M a 4 ta.nl).imp ?_;rintro r M2 ⟨rfl,rfl⟩;have e:xh (.tup [a,b])=(kN 4 a&&(!jg 0 a)&&kN 8 b):=rfl;rw[e]
  cases q4:kN 4 a with
  | false=>nofun;exact⟨rfl,rfl⟩
  | true =>
   cases a with
   | tup as =>
    nofun;by_cases hp:(0:Int)<as.length
    ·rw[bB hp];nofun;refine(hM M b 8 tb.nl).imp ?_;rintro r M2 ⟨rfl,rfl⟩;refine⟨rfl,?_⟩
     have:jg 0 (.tup as)=false:=by
      show(((as.length:Nat):Int)==0)=false;rw[iR];omega
     rw[this];rfl
    ·rw[bx hp];nofun;refine⟨rfl,?_⟩
     have:jg 0 (.tup as)=true:=by
      show(((as.length:Nat):Int)==0)=true;rw[eB];omega
     rw[this];rfl
   | _=>cases q4
def Cf(F:Fn):Prop:=∀(M:ag)(x:D)(n:Nat)(ns:List Int),Tz M x->M[n]?=some (.lst (ns.map D.int))->aL (F [x,.aC n] M) λr M'=>M=M'/\r=.d (.bl (kY ns x))
theorem u6{ns:List Int}{x:D}(h:jg 2 x=false):kY ns x=false:=by
 cases x with
 | tup ds=>rcases ds with _|⟨a,_|⟨b,_|⟨e,r⟩⟩⟩<;>first | rfl | cases h
 | _=>rfl
theorem Pl{G:a9}(hW:qJ (G 0))(hS:tB (G 3))(hT:fh (G 5)):Cf (aj G 2 b8):=by
 intro M x n ns t hM;rw[bz];show eF G b8 [some x,some (.aC n)] M _ _ _ _;nofun;refine(hT M x _ t.nl).imp ?_;rintro r M2 ⟨rfl,rfl⟩
 cases q:jg 2 x with
 | false=>rw[u6 q];nofun;exact⟨rfl,rfl⟩
 | true =>
  obtain⟨a,b,rfl⟩:=qO q;have ta:=t.dk (d:=a) (by simp);have tb:=t.dk (d:=b) (by simp);nofun;refine(hW M a ta.nl).imp ?_;rintro r M2 ⟨rfl,rfl⟩
  cases a with
  | int i =>
   nofun;rw[Ku (ks:=ns) hM];nofun;have e:kY ns (.tup [.int i,b])=(decide (i∈ns)&&gK b):=rfl;rw[e]
   cases q1:decide (i∈ns)with
   | false=>nofun;exact⟨rfl,rfl⟩
   | true =>
    nofun;exact hS M b tb.nl tb.sh
  | _=>first | (nofun;exact⟨rfl,rfl⟩)
def Cg(F:Fn):Prop:=∀(M:ag)(x:D)(n:Nat)(ns:List Int),Tz M x->M[n]?=some (.lst (ns.map D.int))->aL (F [x,.aC n] M) λr M'=>r=.d (.bl (nM ns x))/\Ex M M'
theorem u7{ns:List Int}{x:D}(h:jg 5 x=false):nM ns x=false:=by
 cases x with
 | tup ds=>rcases ds with _|⟨a,_|⟨b,_|⟨c,_|⟨d,_|⟨e,_|⟨f,r⟩⟩⟩⟩⟩⟩<;>first | rfl | cases h
 | _=>rfl
theorem Ch:PyData.strOk "own" = true:=⋯
theorem Pm{G:a9}(GY:qL (G 2))(hS:tB (G 3))(LH:Cd (G 4))(hT:fh (G 5))(Pn:mV (G 6))(YG:Cf (G 8)):Cg (aj G 2 b9):=by
 intro M x n ns t hM;rw[bz];show eF G b9 [some x,some (.aC n)] M _ _ _ _;nofun;refine(hT M x _ t.nl).imp ?_;rintro r M2 ⟨rfl,rfl⟩
 cases q:jg 5 x with
 | false=>rw[u7 q];nofun;exact⟨rfl,Ex.refl M⟩
 | true =>
  obtain⟨s,c,a,sd,w,rfl⟩:=KD q;have ts:=t.dk (d:=s) (by simp);have tc:=t.dk (d:=c) (by simp);have ta:=t.dk (d:=a) (by simp);have td:=t.dk (d:=sd) (by simp);have tw:=t.dk (d:=w) (by simp);have e:nM ns (.tup [s,c,a,sd,w])=(((eR 0 100 s&&eR 0 100 a)&&(eJ "own" c||gK c))&&((kN 3 sd&&qI (kY ns) sd)&&(fB w||gG 8 w))):=rfl;rw[e];clear e t;nofun;refine(GY M s ts.nl).imp ?_;rintro r M2 ⟨rfl,rfl⟩
  cases q1:eR 0 100 s with
  | false=>nofun;exact⟨rfl,Ex.refl M⟩
  | true =>
  nofun;refine(GY M a ta.nl).imp ?_;rintro r M2 ⟨rfl,rfl⟩
  cases q2:eR 0 100 a with
  | false=>nofun;exact⟨rfl,Ex.refl M⟩
  | true =>
  nofun
  set_option smartUnfolding false in show qx .ne (.d c) (.d (.str "own")) M _
  rw[<- jK,Pe tc Ch]
  have tail:(eJ "own" c||gK c)=true->eF G [.iff (.bU [(.neg (.val (.call 6 [(.sub (.eO 0) (.aN (.int 3))),(.qT "MOST_SENDS" 3)]))),(.neg (.val (.bi .all1 [(.comp .seq [(.sub (.eO 0) (.aN (.int 3)))] [1] none (.call 8 [(.eO 1),(.eO 2)]) [none,none,some 1])])))]) [.ret (.aN (.bl false))] [],.ret (.bU [(.cmp .mq (.sub (.eO 0) (.aN (.int 4))) (.aN .aK)),(.call 4 [(.sub (.eO 0) (.aN (.int 4)))])])] [some (.tup [s,c,a,sd,w]),some (.aC n)] M (λ_ M'=>W.d D.aK=.d (.bl (((true&&true)&&(eJ "own" c||gK c))&&((kN 3 sd&&qI (kY ns) sd)&&(fB w||gG 8 w))))/\Ex M M') (λr M'=>r=.d (.bl (((true&&true)&&(eJ "own" c||gK c))&&((kN 3 sd&&qI (kY ns) sd)&&(fB w||gG 8 w))))/\Ex M M') (λ_ _=>False) (λ_ _=>False):=by
   intro hc;rw[hc];nofun;refine(Pn M sd 3 td.nl).imp ?_;rintro r M2 ⟨rfl,rfl⟩
   cases q3:kN 3 sd with
   | false=>nofun;exact⟨rfl,Ex.refl M⟩
   | true =>
    cases sd with
    | tup ds =>
     nofun;refine wN (ds:=ds) (λx=>some (.bl (kY ns x))) (by decide) jN (af (by have:=td.ln;omega)) ?_ ?_ rfl
     ·intro i M' d hd g;nofun;refine(YG M' d n ns ((td.dk (dC hd)).ex g) (Ex.get g hM)).imp ?_;rintro r M2 ⟨rfl,rfl⟩;nofun;exact⟨rfl,g⟩
     ·intro M' g;rw[qM];nofun;rw[all_map];have e:qI (kY ns) (.tup ds)=ds.all (kY ns):=rfl;rw[e]
      cases q4:ds.all (kY ns)with
      | false=>nofun;exact⟨rfl,g⟩
      | true =>
       nofun
       cases w with
       | aK=>nofun;exact⟨rfl,g⟩
       | _ =>
        nofun;refine(LH M' _ (tw.ex g)).imp ?_;rintro r M2 ⟨rfl,e2⟩;exact⟨rfl,Ex.trans g e2⟩
    | _=>cases q3
  cases q5:eJ "own" c with
  | true =>
   rw[q5]at tail;nofun;exact tail rfl
  | false =>
   nofun;refine(hS M c tc.nl tc.sh).imp ?_;rintro r M2 ⟨rfl,rfl⟩;rw[q5]at tail
   cases q6:gK c with
   | false=>nofun;exact⟨rfl,Ex.refl M⟩
   | true =>
    rw[q6]at tail;nofun;exact tail rfl
def oQ(F:Fn):Prop:=∀(M:ag)(x:D)(n:Int),Tz M x->aL (F [x,.int n] M) λr M'=>M=M'/\r=.d (.bl (tS n x))
theorem u9{n:Int}{x:D}(h:jg 3 x=false):tS n x=false:=by
 cases x with
 | tup ds=>rcases ds with _|⟨a,_|⟨b,_|⟨c,_|⟨f,r⟩⟩⟩⟩<;>first | rfl | cases h
 | _=>rfl
theorem Po{G:a9}(hB:qK (G 1))(hT:fh (G 5)):oQ (aj G 2 Qv):=by
 intro M x n t;rw[bz];show eF G Qv [some x,some (.int n)] M _ _ _ _;nofun;refine(hT M x _ t.nl).imp ?_;rintro r M2 ⟨rfl,rfl⟩
 cases q:jg 3 x with
 | false=>rw[u9 q];nofun;exact⟨rfl,rfl⟩
 | true =>
  obtain⟨a,b,k,rfl⟩:=KC q;have ta:=t.dk (d:=a) (by simp);have tb:=t.dk (d:=b) (by simp);have tk:=t.dk (d:=k) (by simp);have e:tS n (.tup [a,b,k])=((eR 0 n a&&eR 0 n b)&&(y_ a b&&(eJ "row" k||eJ "heap" k))):=rfl;rw[e];clear e t;nofun;refine(hB M a n ta.nl).imp ?_;rintro r M2 ⟨rfl,rfl⟩
  cases q1:eR 0 n a with
  | false=>nofun;exact⟨rfl,rfl⟩
  | true =>
  nofun;refine(hB M b n tb.nl).imp ?_;rintro r M2 ⟨rfl,rfl⟩
  cases q2:eR 0 n b with
  | false=>nofun;exact⟨rfl,rfl⟩
  | true =>
  cases a with
  | int i =>
   cases b with
   | int j =>
    nofun;have e:y_ (.int i) (.int j)=!(i==j):=rfl;rw[e]
    cases q3:(i==j)with
    | true=>nofun;exact⟨rfl,rfl⟩
    | false =>
     nofun;refine⟨af (aW rfl),?_⟩;nofun;rw[Pg tk];nofun;exact⟨rfl,rfl⟩
   | _=>cases q2
  | _=>cases q1
def Ci(F:Fn):Prop:=∀(M:ag)(x:D),Tz M x->aL (F [x] M) λr M'=>M=M'/\r=.d (.bl (y0 x))
theorem u_{x:D}(h:jg 2 x=false):y0 x=false:=by
 cases x with
 | tup ds=>rcases ds with _|⟨a,_|⟨b,_|⟨e,r⟩⟩⟩<;>first | rfl | cases h
 | _=>rfl
theorem Pp{G:a9}(GY:qL (G 2))(hT:fh (G 5))(Pn:mV (G 6)):Ci (aj G 1 Qx):=by
 intro M x t;rw[bz];show eF G Qx [some x] M _ _ _ _;nofun;refine(hT M x _ t.nl).imp ?_;rintro r M2 ⟨rfl,rfl⟩
 cases q:jg 2 x with
 | false=>rw[u_ q];nofun;exact⟨rfl,rfl⟩
 | true =>
  obtain⟨a,b,rfl⟩:=qO q;have ta:=t.dk (d:=a) (by simp);have tb:=t.dk (d:=b) (by simp);have e:y0 (.tup [a,b])=(eR 0 100 a&&kN 30 b):=rfl;rw[e];nofun;refine(GY M a ta.nl).imp ?_;rintro r M2 ⟨rfl,rfl⟩
  cases q1:eR 0 100 a with
  | false=>nofun;exact⟨rfl,rfl⟩
  | true =>
   nofun;exact Pn M b 30 tb.nl
end br
end
section
namespace br
open L2 Ev
open PySem PySem.Spec PyProof.Rows
theorem jP[Er]{α:Type}{o:bF α}{P Q:α->ag->Prop}(h:@aL d9 α o P)(k:∀a M,P a M->Q a M):aL o Q:=by
 obtain⟨a,M,e,p⟩:=BL h;exact JL e (k a M p)
theorem KG{α:Type}{e1 e2:tQ->ag->Prop}{o:bF α}{P Q:α->ag->Prop}(h:@aL ⟨e1⟩ α o P)(k:∀x M,e1 x M->e2 x M)(l:∀a M,P a M->Q a M):@aL ⟨e2⟩ α o Q:=by
 cases o with
 | ok a M=>rw[@aJ ⟨e1⟩]at h;rw[@aJ ⟨e2⟩];exact l a M h
 | err x M=>rw[@cZ ⟨e1⟩]at h;rw[@cZ ⟨e2⟩];exact k x M h
 | ae=>rw[@aw ⟨e1⟩]at h;exact h.elim
theorem dX{α:Type}{l:List α}{i:Nat}{d:α}(h:l[i]?=some d):l.drop i=d::l.drop (i+1):=by
 obtain⟨hi,rfl⟩:=d4.mp h;exact List.drop_eq_getElem_cons hi
def fi:D->Int
 | .tup (.int a::_)=>a
 | _=>-1
noncomputable def dY(ro:List D)(m:Int):List Int:=(List.range ro.length).filterMap λn=>if (fi (ro.getD n .aK)==m)=true then some ((n:Nat):Int) else none
noncomputable def Cj(s:Int)(c:Str):D->Bool
 | .tup (.int s'::.str c'::_)=>s'==s&&c'==c
 | _=>false
def FI(pre:List D):D->Bool
 | .tup (.int s::.str c::_)=>pre.any (Cj s c)
 | _=>false
def ly(ns:List Int):List D->List D->Option Nat
 | _,[]=>none
 | pre,d::ds=>if (nM ns d && !FI pre d)=true then ly ns (pre++[d]) ds else some pre.length
def tT(n:Int):Nat->List D->Option Nat
 | _,[]=>none
 | k,d::ds=>if tS n d=true then tT n (k+1) ds else some k
def iQ:D->List D
 | .tup [_,.tup mv]=>mv
 | _=>[]
def nN(ro:List D):Nat->Int->List D->Option (Str×Int)
 | _,_,[]=>none
 | m,k,r::rs=>if y0 r=true then (match ly (dY ro m) [] (iQ r)with
  | some j=>some ("move",k+j)
  | none=>nN ro (m+1) (k+(iQ r).length) rs) else some ("rule",m)
def T7:D->List D
 | .tup (.tup l::_)=>l
 | _=>[]
def VG:D->List D
 | .tup (_::.tup l::_)=>l
 | _=>[]
def oR(x:D):Option (Str×Int):=if xh x=true then (match tT (T7 x).length 0 (VG x)with
 | some k=>some ("road",k)
 | none=>nN (VG x) 0 0 (T7 x)) else some ("form",0)
noncomputable def LI(w:Str)(k:Int):tQ:=⟨44,[("word",.str w),("number",.int k)]⟩
theorem vc{x:D}(h:xh x=true):∃ru ro,x=.tup [.tup ru,.tup ro]/\1<=ru.length/\ru.length<=4/\ro.length<=8:=by
 cases q:jg 2 x with
 | false=>rw[u5 q]at h;cases h
 | true =>
  obtain⟨a,b,rfl⟩:=qO q;have h:(kN 4 a&&(!jg 0 a)&&kN 8 b)=true:=h;simp only[av]at h;obtain⟨⟨h1,h2⟩,h3⟩:=h
  cases a with
  | tup ru =>
   cases b with
   | tup ro =>
    have h1:decide (((ru.length:Nat):Int)<=4)=true:=h1;have h2:(!(((ru.length:Nat):Int)==0))=true:=h2;have h3:decide (((ro.length:Nat):Int)<=8)=true:=h3;simp at h1 h2 h3;refine⟨ru,ro,rfl,?_,∅,∅⟩;rcases ru with _|⟨x,l⟩
    ·exact absurd rfl h2
    ·rw[fE];omega
   | _=>cases h3
  | _=>cases h1
theorem vd{n:Int}{x:D}(h:tS n x=true):∃a b k,x=.tup [.int a,.int b,k]/\0<=a/\a<n:=by
 cases q:jg 3 x with
 | false=>rw[u9 q]at h;cases h
 | true =>
  obtain⟨a,b,k,rfl⟩:=KC q;have h:((eR 0 n a&&eR 0 n b)&&(y_ a b&&(eJ "row" k||eJ "heap" k)))=true:=h;simp only[av]at h;obtain⟨⟨h1,h2⟩,h3⟩:=h
  cases a with
  | int i =>
   cases b with
   | int j =>
    have h1:(decide (0<=i)&&decide (i<n))=true:=h1;simp at h1;exact⟨i,j,k,rfl,h1.1,h1.2⟩
   | _=>cases h2
  | _=>cases h1
theorem kO{ns:List Int}{x:D}(h:nM ns x=true):∃s c a sd w,x=.tup [.int s,.str c,.int a,.tup sd,w]/\sd.length<=3:=by
 cases q:jg 5 x with
 | false=>rw[u7 q]at h;cases h
 | true =>
  obtain⟨s,c,a,sd,w,rfl⟩:=KD q;have h:(((eR 0 100 s&&eR 0 100 a)&&(eJ "own" c||gK c))&&((kN 3 sd&&qI (kY ns) sd)&&(fB w||gG 8 w)))=true:=h;simp only[av]at h;obtain⟨⟨⟨h1,h2⟩,h3⟩,⟨h4,h5⟩,h6⟩:=h
  cases s with
  | int s =>
   cases a with
   | int a =>
    cases sd with
    | tup sd =>
     have h4:decide (((sd.length:Nat):Int)<=3)=true:=h4;simp at h4
     cases c with
     | str c=>exact⟨s,c,a,sd,w,rfl,∅⟩
     | _=>cases h3
    | _=>cases h4
   | _=>cases h2
  | _=>cases h1
theorem vf{x:D}(h:y0 x=true):∃s mv,x=.tup [.int s,.tup mv]/\mv.length<=30/\iQ x=mv:=by
 cases q:jg 2 x with
 | false=>rw[u_ q]at h;cases h
 | true =>
  obtain⟨s,mv,rfl⟩:=qO q;have h:(eR 0 100 s&&kN 30 mv)=true:=h;simp only[av]at h;obtain⟨h1,h2⟩:=h
  cases s with
  | int s =>
   cases mv with
   | tup mv =>
    have h2:decide (((mv.length:Nat):Int)<=30)=true:=h2;simp at h2;exact⟨s,mv,rfl,∅,rfl⟩
   | _=>cases h2
  | _=>cases h1
def mW(F:Fn):Prop:=∀(M:ag)(ru:D)(ro:List D)(m:Int),(∀d∈ro,∃a r,d=.tup (.int a::r))->ro.length<=8->aL (F [.tup [ru,.tup ro],.int m] M) λr M'=>r=.lv ((dY ro m).map D.int)/\Ex M M'
theorem Ck{G:a9}:mW (aj G 2 Qz):=by
 intro M ru ro m hr h8;rw[bz];show eF G Qz [some (.tup [ru,.tup ro]),some (.int m)] M _ _ _ _;nofun;refine BX (ds:=ro.mapIdx λi d=>D.tup [.int (i:Nat),d]) (λi M' aI=>Ex M M'/\aI=((List.range i).filterMap λn=>if (fi (ro.getD n .aK)==m)=true then some ((n:Nat):Int) else none).map D.int) (by decide) ?_ ⟨Ex.refl M,rfl⟩ ?_ ?_ (by rw[List.length_mapIdx];rfl)
 ·intro i M' aI _ _;show some (ro[i]?.map λd=>D.tup [.int i,d])=_;rw[CZ]
 ·rintro i M' aI d hd ⟨g,rfl⟩;rw[CZ]at hd;obtain⟨d',Ml,rfl⟩:=CT.mp hd;have hi:=(d4.mp Ml).1;obtain⟨a,r,rfl⟩:=hr _ (dC Ml);refine⟨cy (by rw[cM];have:=List.length_filterMap_le (λn=>if (fi (ro.getD n .aK)==m)=true then some ((n:Nat):Int) else none) (List.range i);rw[zt]at this;omega),?_⟩;have h0:dO (.d (.tup (.int a::r))) (.d (.int 0)) M'=.ok (.d (.int a)) M':=fM (m:=0) rfl;nofun;rw[h0];nofun;have e:fi (ro.getD i .aK)=a:=by rw[tU,Ml];rfl
  have e2:∀o,(if (a==m)=true then some ((i:Nat):Int) else none)=o->((List.range (i+1)).filterMap λn=>if (fi (ro.getD n .aK)==m)=true then some ((n:Nat):Int) else none)=((List.range i).filterMap λn=>if (fi (ro.getD n .aK)==m)=true then some ((n:Nat):Int) else none)++o.toList:=λo ho=>by
   rw[List.range_succ,List.filterMap_append]
   congr 1
   rw[xB,e,ho];cases o<;>rfl
  cases q:(a==m)with
  | true =>
   rw[q]at e2;nofun;refine⟨g,?_⟩;rw[e2 _ rfl,Di];rfl
  | false =>
   rw[q]at e2;refine⟨g,?_⟩;rw[e2 _ rfl];simp
 ·rintro M' aI ⟨g,rfl⟩;nofun;refine⟨?_,g⟩;rw[List.length_mapIdx];rfl
theorem Pq{M:ag}{n:Nat}{ao:List (List bC×D)}{s:Int}{c:Str}(h:M[n]?=some (.dT ao)):iL false (.d (.tup [.int s,.str c])) (.d (.aC n)) M=.ok (.d (.bl (dN ao [Sum.inl s,Sum.inr c]).isSome)) M:=by
 unfold iL;have e1:NW M (.d (.aC n))=some ao:=by unfold NW;simp only[h]
 have e2:AH (.d (.tup [.int s,.str c]))=some [Sum.inl s,Sum.inr c]:=Eq.trans rfl rfl;simp only[e1,e2];simp
theorem Pr{M:ag}{n:Nat}{ao:List (List bC×D)}{s:Int}{c:Str}{d:D}(h:M[n]?=some (.dT ao))(hl:ao.length<sizeLine):gV (.d (.aC n)) (.d (.tup [.int s,.str c])) d M=.ok () (M.set n (.dT (jx ao [Sum.inl s,Sum.inr c] d))):=by
 unfold gV;have e2:AH (.d (.tup [.int s,.str c]))=some [Sum.inl s,Sum.inr c]:=Eq.trans rfl rfl;simp only[h,e2];exact aU hl
def KH(F:Fn):Prop:=∀(M:ag)(mv:List D)(n:Nat)(ns:List Int)(k0:Int),Tz M (.tup mv)->M[n]?=some (.lst (ns.map D.int)) ->
 @aL ⟨λy M'=>(∃k:Nat,ly ns [] mv=some k/\y=LI "move" (k0+k))/\Ex M M'⟩ W (F [.tup mv,.aC n,.int k0] M) λr M'=>ly ns [] mv=none/\Ex M M'
theorem T8{G:a9}(KI:Cg (G 9)):KH (aj G 6 O9):=by
 intro M mv n ns k0 t hn
 letI:Er:=⟨λy M'=>(∃k:Nat,ly ns [] mv=some k/\y=LI "move" (k0+k))/\Ex M M'⟩
 show aL (aj G 6 O9 [.tup mv,.aC n,.int k0] M) _;rw[bz];show eF G O9 [some (.tup mv),some (.aC n),some (.int k0),none,none,none] M _ _ _ _;nofun;refine uP (ds:=mv) (λi ρ M'=>∃o4 o5 ao,ρ=[some (.tup mv),some (.aC n),some (.int k0),some (.aC M.length),o4,o5]/\M'[M.length]?=some (.dT ao)/\ao.length<=i/\Ex M M'/\ly ns [] mv=ly ns (mv.take i) (mv.drop i)/\∀s c,(dN ao [Sum.inl s,Sum.inr c]).isSome=(mv.take i).any (Cj s c)) ⟨none,none,[],rfl,aP,ar _,(Ex.refl M).app,rfl,λs c=>rfl⟩ ?_ ?_
 ·rintro i ρ M' d hd ⟨o4,o5,ao,rfl,hk,hl,g,em,hs⟩;have hi:=(d4.mp hd).1;have h60:=t.ln;have YH:(mv.take i).length=i:=by rw[fD];omega
  rw[dX hd]at em;have em:ly ns [] mv=if (nM ns d && !FI (mv.take i) d)=true then ly ns (mv.take i++[d]) (mv.drop (i+1)) else some (mv.take i).length:=em
  rw[YH,<- cS hd]at em;nofun;refine jP (KI M' d n ns ((t.dk (dC hd)).ex g) (Ex.get g hn)) ?_;rintro r M2 ⟨rfl,g2⟩
  cases q:nM ns d with
  | false =>
   rw[q]at em;nofun;exact⟨⟨i,em,rfl⟩,Ex.trans g g2⟩
  | true =>
   rw[q]at em;obtain⟨s,c,a,sd,w,rfl,_⟩:=kO q;have NR:=Ex.get g2 hk;nofun;refine⟨af (aW rfl),?_⟩;nofun;rw[Pq NR,hs s c];have es:FI (mv.take i) (.tup [.int s,.str c,.int a,.tup sd,w])=(mv.take i).any (Cj s c):=rfl;rw[es]at em
   cases q2:(mv.take i).any (Cj s c)with
   | true =>
    rw[q2]at em;nofun;exact⟨⟨i,em,rfl⟩,Ex.trans g g2⟩
   | false =>
    rw[q2]at em;nofun;refine⟨af (aW rfl),?_⟩;nofun;rw[Pr NR (cy ∅)];nofun;refine⟨_,_,_,rfl,d_ NR,?_,Fr.set (Ex.trans g g2) (ar _),em,λs' c'=>?_⟩
    ·exact bJ FE ∅
    ·rw[FD,cS hd,List.any_append]
     have ek:([D.tup [.int s,.str c,.int a,.tup sd,w]].any (Cj s' c'))=(s==s'&&c==c'):=by
      show((s==s'&&c==c')||false)=_;rw[xR]
     rw[ek,<- hs s' c'];by_cases z:([Sum.inl s,Sum.inr c]:List bC)=[Sum.inl s',Sum.inr c']
     ·rw[aU z];simp only[List.cons.injEq,Sum.inl.injEq,Sum.inr.injEq,and_true]at z;obtain⟨rfl,rfl⟩:=z;simp
     ·rw[aX z]
      have:(s==s'&&c==c')=false:=by
       cases q9:(s==s'&&c==c')with
       | false=>rfl
       | true =>
        simp only[av,eB]at q9;exact absurd (by rw[q9.1,q9.2]) z
      rw[this,xR]
 ·rintro ρ M' ⟨o4,o5,ao,rfl,hk,hl,g,em,hs⟩;nofun;rw[xN]at em;exact⟨em,g⟩
end br
end
section
namespace br
open L2 Ev
open PySem PySem.Spec PyProof.Rows
theorem qQ{x:D}(h:xh x=false):oR x=some (("form" : Str),(0:Int)):=by unfold oR;rw[h];rfl
theorem jQ{ru ro:List D}(h:xh (.tup [.tup ru,.tup ro])=true):oR (.tup [.tup ru,.tup ro])=(match tT ru.length 0 ro with
 | some k=>some ("road",k)
 | none=>nN ro 0 0 ru):=by unfold oR;rw[h];rfl
theorem ib{n:Int}{k:Nat}{d:D}{ds:List D}:tT n k (d::ds)=if tS n d=true then tT n (k+1) ds else some k:=rfl
theorem ic {ro : List D} {m : Nat} {k : Int} {r : D} {rs : List D} : nN ro m k (r :: rs) = if y0 r = true then (match ly (dY ro m) [] (iQ r) with
    | some j=>some (("move" : Str),(k+j:Int))
    | none=>nN ro (m+1) (k+(iQ r).length) rs) else some (("rule" : Str),(m:Int)):=rfl
theorem jR{α:Type}{p:α->Prop}{l:List α}{i:Nat}{d:α}(h:l[i]?=some d)(k:∀x∈l.take i,p x)(q:p d):∀x∈l.take (i+1),p x:=λx hx=>by
 rw[cS h]at hx;rcases gO.mp hx with z | z
 ·exact k x z
 ·rw[xE.mp z];exact q
def vg(F:Fn):Prop:=∀(M:ag)(x:D),Tz M x->@aL ⟨λy M'=>(∃w k,oR x=some (w,k)/\y=LI w k)/\Ex M M'⟩ W (F [x] M) λr M'=>r=.d (.bl true)/\oR x=none/\Ex M M'
theorem KJ{G:a9}(YI:qP (G 7))(hA:KH (G 10))(T9:oQ (G 11))(YJ:Ci (G 12))(YK:mW (G 13)):vg (aj G 8 O_):=by
 intro M x t
 letI:Er:=⟨λy M'=>(∃w k,oR x=some (w,k)/\y=LI w k)/\Ex M M'⟩
 show aL (aj G 8 O_ [x] M) _;rw[bz];show eF G O_ [some x,none,none,none,none,none,none,none] M _ _ _ _;nofun;refine jP (YI M x t) ?_;rintro r M2 ⟨rfl,rfl⟩
 cases q:xh x with
 | false =>
  nofun;exact⟨⟨_,_,qQ q,rfl⟩,Ex.refl M⟩
 | true =>
  obtain⟨ru,ro,rfl,l1,l4,l8⟩:=vc q;have ed:=jQ q;have YL:=t.dk (d:=.tup ru) (by simp);have YM:=t.dk (d:=.tup ro) (by simp);nofun;refine uP (ds:=ro) (λi ρ M'=>∃o3 o4,ρ=[some (.tup [.tup ru,.tup ro]),some (.tup ru),some (.tup ro),o3,o4,none,none,none]/\Ex M M'/\tT ru.length 0 ro=tT ru.length i (ro.drop i)/\∀d∈ro.take i,tS ru.length d=true) ⟨none,none,rfl,Ex.refl M,rfl,λd hd=>by cases hd⟩ ?_ ?_
  ·rintro i ρ M' d hd ⟨o3,o4,rfl,g,er,al⟩;rw[dX hd,ib]at er;nofun;refine jP (T9 M' d ru.length ((YM.dk (dC hd)).ex g)) ?_;rintro r M2 ⟨rfl,rfl⟩
   cases q1:tS ru.length d with
   | false =>
    rw[q1]at er;nofun;refine⟨⟨"road",(i:Int),?_,rfl⟩,g⟩;rw[ed,er];rfl
   | true =>
    rw[q1]at er;nofun;exact⟨_,_,rfl,g,er,jR hd al q1⟩
  ·rintro ρ M' ⟨o3,o4,rfl,g,er,al⟩;rw[xM]at al;rw[xN]at er;rw[er]at ed;have ed:oR (.tup [.tup ru,.tup ro])=nN ro 0 0 ru:=ed
   have zg:∀d∈ro,∃a r,d=D.tup (.int a::r):=λd hd=>by
    obtain⟨a,b,k,e,_⟩:=vd (al d hd);exact⟨a,_,e⟩
   nofun;refine uP (ds:=ru) (λi ρ M'=>∃o3 o4 o6 o7 k,ρ=[some (.tup [.tup ru,.tup ro]),some (.tup ru),some (.tup ro),o3,o4,some (.int k),o6,o7]/\Ex M M'/\nN ro 0 0 ru=nN ro i k (ru.drop i)) ⟨_,_,none,none,0,rfl,g,rfl⟩ ?_ ?_
   ·rintro i ρ M' d hd ⟨o3,o4,o6,o7,k,rfl,g,er⟩;have td:=YL.dk (dC hd);rw[dX hd,ic]at er;nofun;refine jP (YJ M' d (td.ex g)) ?_;rintro r M2 ⟨rfl,rfl⟩
    cases q1:y0 d with
    | false =>
     rw[q1]at er;nofun;exact⟨⟨"rule",(i:Int),ed.trans er,rfl⟩,g⟩
    | true =>
     rw[q1]at er;obtain⟨s,mv,rfl,LJ,em⟩:=vf q1;rw[em]at er;have tm:=td.dk (d:=.tup mv) (by simp);nofun;refine jP (YK M' (.tup ru) ro i zg l8) ?_;rintro r M2 ⟨rfl,g2⟩;nofun;have g3:Ex M (M2++[MO.lst ((dY ro i).map D.int)]):=(Ex.trans g g2).app;refine KG (hA (M2++[MO.lst ((dY ro i).map D.int)]) mv M2.length (dY ro i) k (tm.ex g3) aP) ?_ ?_
     ·rintro y M3 ⟨⟨j,e3,rfl⟩,g4⟩;rw[e3]at er;exact⟨⟨_,_,ed.trans er,rfl⟩,Ex.trans g3 g4⟩
     ·rintro r M3 ⟨e3,g4⟩;rw[e3]at er;nofun;exact⟨_,_,_,_,_,rfl,Ex.trans g3 g4,er⟩
   ·rintro ρ M' ⟨o3,o4,o6,o7,k,rfl,g,er⟩;rw[xN]at er;nofun;exact⟨rfl,ed.trans er,g⟩
end br
end
section
namespace br
open L2 Ev
open PySem PySem.Spec PyProof.Rows
noncomputable def LK(lo hi:Int):D->Bool
 | .int i=>decide (lo<=i)&&decide (i<=hi)
 | _=>false
theorem kP{s:Int}{a:D}:LK 0 (s-1) a=eR 0 s a:=by
 cases a with
 | int i =>
  show(decide (0<=i)&&decide (i<=s-1))=(decide (0<=i)&&decide (i<s))
  congr 1
  exact decide_eq_decide.mpr ∅
 | _=>rfl
def jS(F:Fn):Prop:=∀(M:ag)(x:D)(lo hi:Int),Nl M x->aL (F [x,.int lo,.int hi] M) λr M'=>M=M'/\r=.d (.bl (LK lo hi x))
theorem FJ{G:a9}:jS (aj G 3 QI):=by
 intro M x lo hi h;rw[bz];show eF G QI [some x,some (.int lo),some (.int hi)] M _ _ _ _;nofun;rw[Kx h]
 cases x with
 | int i =>
  have e:LK lo hi (.int i)=(decide (lo<=i)&&decide (i<=hi)):=rfl;rw[e];nofun
  cases decide (lo<=i)with
  | true=>nofun;exact⟨rfl,rfl⟩
  | false=>nofun;exact⟨rfl,rfl⟩
 | _=>first | exact h.elim | (nofun;exact⟨rfl,rfl⟩)
theorem Cm:∀c:Fin 128,decide ((0:Int)<=Txt.find ("abcdefghijklmnopqrstuvwxyz" : Str) ⟨#[c.val]⟩)=gK (.str ⟨#[c.val]⟩):=⋯
def T_:Str := "abcdefghijklmnopqrstuvwxyz"
def KL:D->Int
 | .str s=>Txt.find T_ s
 | _=>0
theorem FK{s:Str}{d:D}(h:(s.cps.all λc=>decide (c<128))=true)(hd:d∈dI s):decide ((0:Int)<=KL d)=gK d:=by
 obtain⟨c,rfl,hc⟩:=u4 hd;rw[Hu]at h;have:=h c (by simpa using hc);exact Cm ⟨c,zr this⟩
theorem tD{α:Type}{f g:α->Bool}:∀{l:List α},(∀d∈l,f d=g d)->l.all f=l.all g
 | [],_=>rfl
 | x::l,h=>by rw[t5,t5,h x dD,tD λd hd=>h d (dB _ hd)]
theorem ints_map:∀l:List Int,iK (l.map D.int)=some l
 | []=>rfl
 | i::l=>by
  show(iK (l.map D.int)).map (i::·)=_;rw[ints_map l];rfl
theorem pO:∀(l:List Int)(i:Int),decide (0<=l.foldl (λa b=>if b<a then b else a) i)=(decide (0<=i)&&l.all λx=>decide (0<=x))
 | [],i=>by show decide (0<=i)=(decide (0<=i)&&true);rw[xS]
 | b::l,i=>by
  rw[Dc,pO l,t5,<- Bool.and_assoc]
  congr 1
  by_cases h:b<i
  ·rw[aU h];by_cases h1:0<=b
   ·rw[bB h1,bB (show 0<=i by omega)];rfl
   ·rw[bx h1,iB]
  ·rw[aX h];by_cases h1:0<=i
   ·rw[bB h1,bB (show 0<=b by omega)];rfl
   ·rw[bx h1,lM]
theorem KM{M:ag}{i:Int}{l:List Int}:gI .min1 [.lv ((i::l).map D.int)] M=.ok (.d (.int (l.foldl (λa b=>if b<a then b else a) i))) M:=by
 unfold gI bD;simp only[ints_map]
def vh(F:Fn):Prop:=∀(M:ag)(x:D)(n:Int),Tz M x->aL (F [x,.int n] M) λr M'=>r=.d (.bl (gG n x))/\Ex M M'
theorem KN{G:a9}:vh (aj G 2 QK):=by
 intro M x n t;have h:=t.nl;rw[bz];show eF G QK [some x,some (.int n)] M _ _ _ _;nofun;rw[Cc h]
 cases x with
 | str s =>
  obtain⟨_,h2,h3⟩:=t.st;have e:gG n (.str s)=((decide ((1:Int)<=s.length)&&decide ((s.length:Int)<=n))&&(dI s).all gK):=rfl;rw[e];clear e;nofun;rw[len_str (af (bJ h2 (by decide)))];nofun;by_cases k1:(1:Int)<=s.length
  ·rw[bB k1];nofun;by_cases k2:(s.length:Int)<=n
   ·rw[bB k2];nofun;rw[xk h3];nofun;refine wN (ds:=dI s) (λx=>some (.int (KL x))) (by decide) jN (af (by rw[qN];omega)) ?_ ?_ rfl
    ·intro i M' d hd g;nofun;obtain⟨c,rfl,_⟩:=u4 (dC hd);nofun;exact⟨rfl,g⟩
    ·intro M' g;rw[qM]
     have wY:(dI s).all gK=((dI s).map KL).all λx=>decide (0<=x):=by
      rw[List.all_map];refine tD λd hd=>?_;exact(FK h3 hd).symm
     have hm:(dI s).map (λx=>D.int (KL x))=((dI s).map KL).map D.int:=by rw[List.map_map];rfl
     rw[hm,wY];have mZ:((dI s).map KL).length=s.length:=by rw[cM,qN]
     generalize (dI s).map KL=l at mZ
     cases l with
     | nil=>rw[q_]at mZ;omega
     | cons i l =>
      nofun;rw[KM];nofun;refine⟨?_,g⟩;rw[pO,t5];rfl
   ·rw[bx k2];nofun;exact⟨rfl,Ex.refl M⟩
  ·rw[bx k1];nofun;exact⟨rfl,Ex.refl M⟩
 | _=>first | exact h.elim | (nofun;exact⟨rfl,Ex.refl M⟩)
theorem Ps{x:D}:gG 1 x=gK x:=by
 cases x with
 | str s =>
  have e:gG 1 (.str s)=((decide ((1:Int)<=s.length)&&decide ((s.length:Int)<=1))&&(dI s).all gK):=rfl;rw[e];by_cases q:s.length=1
  ·have hc:∃c,s=⟨#[c]⟩:=by
    obtain⟨⟨l⟩⟩:=s;have q:l.length=1:=q;rcases l with _|⟨c,_|⟨d,l⟩⟩
    ·cases q
    ·exact⟨c,rfl⟩
    ·simp at q
   obtain⟨c,rfl⟩:=hc;have e2:dI ⟨#[c]⟩=[.str ⟨#[c]⟩]:=rfl;rw[e2];show((true&&true)&&(gK (.str ⟨#[c]⟩)&&true))=_;simp only[xS,zA]
  ·have e2:gK (.str s)=false:=by
    show(((s.length:Nat):Int)==1&&_)=false;rw[show(((s.length:Nat):Int)==1)=false by rw[iR];omega];rfl
   rw[e2];by_cases k:(1:Int)<=s.length
   ·rw[bx (show ¬(s.length:Int)<=1 by omega),iB];rfl
   ·rw[bx k];rfl
 | _=>rfl
theorem KO{G:a9}(hW:jS (G 22))(hT:fh (G 24)):oQ (aj G 2 QN):=by
 intro M x n t;rw[bz];show eF G QN [some x,some (.int n)] M _ _ _ _;nofun;refine(hT M x _ t.nl).imp ?_;rintro r M2 ⟨rfl,rfl⟩
 cases q:jg 3 x with
 | false=>rw[u9 q];nofun;exact⟨rfl,rfl⟩
 | true =>
  obtain⟨a,b,k,rfl⟩:=KC q;have ta:=t.dk (d:=a) (by simp);have tb:=t.dk (d:=b) (by simp);have tk:=t.dk (d:=k) (by simp);have e:tS n (.tup [a,b,k])=((eR 0 n a&&eR 0 n b)&&(y_ a b&&(eJ "row" k||eJ "heap" k))):=rfl;rw[e];clear e t;nofun;rw[Cc tk.nl]
  cases qk:TZ k with
  | false =>
   have:(eJ "row" k||eJ "heap" k)=false:=by cases k<;>first | rfl | cases qk
   rw[this,iB,iB];nofun;exact⟨rfl,rfl⟩
  | true =>
   nofun;refine⟨af (aW rfl),?_⟩;nofun;rw[Ph tk]
   cases q0:(eJ "row" k||eJ "heap" k)with
   | false =>
    rw[iB,iB];nofun;exact⟨rfl,rfl⟩
   | true =>
    nofun;refine(hW M a 0 (n-1) ta.nl).imp ?_;rintro r M2 ⟨rfl,rfl⟩;rw[kP]
    cases q1:eR 0 n a with
    | false=>nofun;exact⟨rfl,rfl⟩
    | true =>
    nofun;refine(hW M b 0 (n-1) tb.nl).imp ?_;rintro r M2 ⟨rfl,rfl⟩;rw[kP]
    cases q2:eR 0 n b with
    | false=>nofun;exact⟨rfl,rfl⟩
    | true =>
    cases a with
    | int i =>
     cases b with
     | int j =>
      nofun;have e:y_ (.int i) (.int j)=!(i==j):=rfl;rw[e];cases (i==j)<;>exact⟨rfl,rfl⟩
     | _=>cases q2
    | _=>cases q1
theorem xl{ro:List D}{m i:Int}:(i∈dY ro m)↔(0<=i/\i<ro.length/\fi (ro.getD i.toNat .aK)=m):=by
 unfold dY;rw[Hr];constructor
 ·rintro⟨n,hn,e⟩;have hn:=tZ.mp hn;split at e
  ·rename_i q
   cases e;rw[oV];exact⟨∅,∅,eq_of_beq q⟩
  ·cases e
 ·rintro⟨h1,h2,h3⟩;refine⟨i.toNat,tZ.mpr ∅,?_⟩;rw[h3,aU (xJ m)]
  congr 1
  omega
def vj(F:Fn):Prop:=∀(M:ag)(x:D)(ro:List D)(m:Int),Tz M x->(∀d∈ro,∃a r,d=.tup (.int a::r))->aL (F [x,.tup ro,.int m] M) λr M'=>r=.d (.bl (nM (dY ro m) x))/\Ex M M'
theorem KP{G:a9}(hW:jS (G 22))(LH:vh (G 23))(hT:fh (G 24)):vj (aj G 4 QP):=by
 intro M x ro m t zg;rw[bz];show eF G QP [some x,some (.tup ro),some (.int m),none] M _ _ _ _;generalize md:dY ro m=ns;nofun;refine(hT M x _ t.nl).imp ?_;rintro r M2 ⟨rfl,rfl⟩
 cases q:jg 5 x with
 | false=>rw[u7 q];nofun;exact⟨rfl,Ex.refl M⟩
 | true =>
  obtain⟨s,c,a,sd,w,rfl⟩:=KD q;have ts:=t.dk (d:=s) (by simp);have tc:=t.dk (d:=c) (by simp);have ta:=t.dk (d:=a) (by simp);have td:=t.dk (d:=sd) (by simp);have tw:=t.dk (d:=w) (by simp);have e:nM ns (.tup [s,c,a,sd,w])=(((eR 0 100 s&&eR 0 100 a)&&(eJ "own" c||gK c))&&((kN 3 sd&&qI (kY ns) sd)&&(fB w||gG 8 w))):=rfl;rw[e];clear e t;nofun;rw[Cc tc.nl]
  cases qc:TZ c with
  | false =>
   have:(eJ "own" c||gK c)=false:=by cases c<;>first | rfl | cases qc
   rw[this,iB];nofun;exact⟨rfl,Ex.refl M⟩
  | true =>
  nofun;rw[tq td.nl]
  cases sd with
  | tup ds =>
   nofun;refine(hW M s 0 99 ts.nl).imp ?_;rintro r M2 ⟨rfl,rfl⟩;rw[show LK 0 99 s=eR 0 100 s from kP (s:=100)]
   cases q1:eR 0 100 s with
   | false=>nofun;exact⟨rfl,Ex.refl M⟩
   | true =>
   nofun;refine(hW M a 0 99 ta.nl).imp ?_;rintro r M2 ⟨rfl,rfl⟩;rw[show LK 0 99 a=eR 0 100 a from kP (s:=100)]
   cases q2:eR 0 100 a with
   | false=>nofun;exact⟨rfl,Ex.refl M⟩
   | true =>
   nofun;have e3:kN 3 (.tup ds)=decide (((ds.length:Nat):Int)<=3):=rfl;have e4:qI (kY ns) (.tup ds)=ds.all (kY ns):=rfl;rw[e3,e4];by_cases q3:(3:Int)<ds.length
   ·rw[bB q3,bx (show ¬(ds.length:Int)<=3 by omega),lM,lM,iB];nofun;exact⟨rfl,Ex.refl M⟩
   ·rw[bx q3,bB (show(ds.length:Int)<=3 by omega)];nofun;refine qE (ds:=ds) (λi ρ M'=>∃o3,ρ=[some (.tup [s,c,a,.tup ds,w]),some (.tup ro),some (.int m),o3]/\Ex M M'/\∀d∈ds.take i,kY ns d=true) ⟨none,rfl,Ex.refl M,λd hd=>by cases hd⟩ ?_ ?_
    ·rintro i ρ M' d hd ⟨o3,rfl,g,al⟩;have Ua:=(td.dk (dC hd)).ex g
     have bad:kY ns d=false->∀KQ,Ex M KQ->(W.d (D.bl false)=.d (.bl (((true&&true)&&(eJ "own" c||gK c))&&((true&&ds.all (kY ns))&&(fB w||gG 8 w))))/\Ex M KQ):=λz KQ g'=>by
      have:ds.all (kY ns)=false:=by
       rw[List.all_eq_false];exact⟨d,dC hd,by rw[z];simp⟩
      rw[this,iB,lM,iB];exact⟨rfl,g'⟩
     nofun;refine(hT M' d _ Ua.nl).imp ?_;rintro r M2 ⟨rfl,rfl⟩
     cases q4:jg 2 d with
     | false=>nofun;exact bad (u6 q4) _ g
     | true =>
      obtain⟨r,y,rfl⟩:=qO q4;have tr:=Ua.dk (d:=r) (by simp);have ty:=Ua.dk (d:=y) (by simp);have e5:kY ns (.tup [r,y])=(Q5 ns r&&gK y):=rfl;rw[e5]at bad;nofun;refine(hW M' r 0 _ tr.nl).imp ?_;rintro r2 M2 ⟨rfl,rfl⟩;rw[kP]
      cases r with
      | int j =>
       have e6:Q5 ns (.int j)=decide (j∈ns):=rfl;rw[e6]at bad e5;have hj:j∈ns↔(0<=j/\j<ro.length/\fi (ro.getD j.toNat .aK)=m):=by rw[<- md];exact xl
       have e7:eR 0 (ro.length:Int) (.int j)=(decide (0<=j)&&decide (j<ro.length)):=rfl;rw[e7];by_cases k1:0<=j/\j<ro.length
       ·rw[bB k1.1,bB k1.2];nofun;refine(LH M' y 1 ty).imp ?_;rintro r2 M2 ⟨rfl,g2⟩;rw[Ps]
        cases q6:gK y with
        | false =>
         rw[q6]at bad;nofun;exact bad (iB _) _ (Ex.trans g g2)
        | true =>
         rw[q6]at bad e5;have yv:j.toNat<ro.length:=∅;have eg:ro[j.toNat]?=some ro[j.toNat]:=eK yv;have ef:fi (ro.getD j.toNat .aK)=fi ro[j.toNat]:=by rw[tU,eg];rfl
         obtain⟨a',r',ea⟩:=zg _ (tY yv);rw[ea]at eg ef;have h0:dO (.d (.tup (.int a'::r'))) (.d (.int 0)) M2=.ok (.d (.int a')) M2:=fM (m:=0) rfl;nofun;rw[qC k1.1 eg];nofun;rw[h0];nofun
         cases q7:(a'==m)with
         | false =>
          nofun;refine bad ?_ _ (Ex.trans g g2);rw[xS];refine bx λz=>?_;have:=(hj.mp z).2.2;rw[ef]at this;exact absurd this (iR.mp q7)
         | true =>
          nofun;refine⟨_,rfl,Ex.trans g g2,jR hd al ?_⟩;rw[e5,xS];exact bB (hj.mpr ⟨k1.1,k1.2,by rw[ef];exact eq_of_beq q7⟩)
       ·have:(decide (0<=j)&&decide (j<(ro.length:Int)))=false:=by
         by_cases z:0<=j
         ·rw[bx (λy=>k1 ⟨z,y⟩),iB]
         ·rw[bx z,lM]
        rw[this];nofun;refine bad ?_ _ g;rw[bx (λz=>k1 ⟨(hj.mp z).1,(hj.mp z).2.1⟩),lM]
      | _=>nofun;exact bad rfl _ g
    ·rintro ρ M' ⟨o3,rfl,g,al⟩;rw[xM]at al;have:ds.all (kY ns)=true:=gM.mpr al;rw[this]
     have hw:wE G (.bU [(.cmp .mq (.sub (.eO 0) (.aN (.int 4))) (.aN .aK)),(.call 23 [(.sub (.eO 0) (.aN (.int 4))),(.aN (.int 8))])]) [some (.tup [s,c,a,.tup ds,w]),some (.tup ro),some (.int m),o3] M' (λr M'=>r=.d (.bl (fB w||gG 8 w))/\Ex M M'):=by
      nofun
      cases w with
      | aK=>nofun;exact⟨rfl,g⟩
      | _ =>
       nofun;refine(LH M' _ 8 (tw.ex g)).imp ?_;rintro r M2 ⟨rfl,e2⟩;exact⟨rfl,Ex.trans g e2⟩
     have kX:∀M2,Ex M' M2->wE G (.bU [(.cmp .mq (.sub (.eO 0) (.aN (.int 4))) (.aN .aK)),(.call 23 [(.sub (.eO 0) (.aN (.int 4))),(.aN (.int 8))])]) [some (.tup [s,c,a,.tup ds,w]),some (.tup ro),some (.int m),o3] M2 (λr M'=>r=.d (.bl (fB w||gG 8 w))/\Ex M M'):=λM2 g2=>by
      nofun
      cases w with
      | aK=>nofun;exact⟨rfl,Ex.trans g g2⟩
      | _ =>
       nofun;refine(LH M2 _ 8 (tw.ex (Ex.trans g g2))).imp ?_;rintro r M3 ⟨rfl,e2⟩;exact⟨rfl,Ex.trans (Ex.trans g g2) e2⟩
     nofun
     set_option smartUnfolding false in show qx .eq (.d c) (.d (.str "own")) M' _
     rw[<- jK,Pf (tc.ex g) Ch]
     cases q5:eJ "own" c with
     | true=>exact kX M' (Ex.refl _)
     | false =>
      nofun;refine(LH M' c 1 (tc.ex g)).imp ?_;rintro r M2 ⟨rfl,g2⟩;rw[Ps]
      cases q6:gK c with
      | false=>nofun;exact⟨rfl,Ex.trans g g2⟩
      | true=>exact kX M2 g2
  | _ =>
   nofun;refine⟨?_,Ex.refl M⟩;show _=W.d (D.bl (_&&((false&&_)&&_)));rw[lM,lM,iB]
end br
end
section
namespace br
open L2 Ev
open PySem PySem.Spec PyProof.Rows
theorem mX{ds:List D}{i:Nat}(h:i<=ds.length):Ev.cutD ds none (some (i:Int))=ds.take i:=by
 unfold Ev.cutD;rw[HT.pC,HT.rM,List.drop_zero,Nat.sub_zero,Nat.min_eq_left h]
theorem jT{ds:List D}{i:Nat}(h:i<=ds.length):Ev.cutD ds (some (i:Int)) none=ds.drop i:=by
 unfold Ev.cutD;rw[HT.pC,HT.rM,Nat.min_eq_left h];exact List.take_of_length_le (by rw[kZ];omega)
theorem Ub{a b c d e:D}:Ev.cutD [a,b,c,d,e] none (some 2)=[a,b]:=rfl
def k2:D->D
 | .tup (a::b::_)=>.tup [a,b]
 | d=>d
section
variable {M:ag} {s:Int} {c:Str}
theorem GZ{n:Nat}:cL M (n+1) (.tup [.int s,.str c])=some (.tuple [.int s,.str c]):=by
 try simp only[cL,bj,C_]
theorem G0(h:PyData.strOk c=true):SeqAt.shaped (.tuple [.int s,.str c])=true:=by
 unfold SeqAt.shaped
 try simp only[PyData.canLay0.eq_6,PyData.canLayAll0.eq_2,PyData.canLayAll0.eq_1,PyData.canLay0.eq_3,PyData.canLay0.eq_4,h,PyData.depth.eq_2,PyData.depthAll.eq_2,PyData.depthAll.eq_1,PyData.depth.eq_6,PyData.depth.eq_7]
 rfl
theorem xm:∀{l:List D},(∀d∈l,∃s c r,d=.tup (.int s::.str c::r)/\PyData.strOk c=true)->∃qs,bj M 30 (l.map k2)=some qs/\qs.all SeqAt.shaped=true/\gm (.tuple [.int s,.str c]) qs=l.any (Cj s c)
 | [],_=>⟨[],by rw[xU];unfold bj;rfl,rfl,rfl⟩
 | d::l,h=>by
  obtain⟨s',c',r,rfl,hc⟩:=h _ dD;obtain⟨qs,e1,e2,e3⟩:=xm (l:=l) λx hx=>h x (dB _ hx);refine⟨.tuple [.int s',.str c']::qs,?_,?_,?_⟩
  ·rw[iC];show bj M 30 (.tup [.int s',.str c']::l.map k2)=_;unfold bj;rw[GZ,e1]
  ·rw[t5,e2,G0 hc];rfl
  ·rw[xQ];show(PyData.eqv (.tuple [.int s',.str c']) (.tuple [.int s,.str c])||gm _ qs)=_;rw[e3]
   congr 1
   try simp only[PyData.eqv.eq_8,PyData.eqvAll.eq_2,PyData.eqvAll.eq_1,zw,PyData.eqv.eq_6,xS]
   rfl
theorem FL{l:List D}(h:∀d∈l,∃s c r,d=.tup (.int s::.str c::r)/\PyData.strOk c=true)(hc:PyData.strOk c=true):bp .isin (.d (.tup [.int s,.str c])) (.lv (l.map k2)) M=.ok (l.any (Cj s c)) M:=by
 obtain⟨qs,e1,e2,e3⟩:=xm (M:=M) (s:=s) (c:=c) h;have e0:jw M (.d (.tup [.int s,.str c]))=some (.tuple [.int s,.str c]):=GZ (n:=29);unfold bp;simp only[e0,bD,e1,e2,G0 hc,lb,dE,e3]
end
noncomputable def Cn:Option (Str×Int)->D
 | none=>.aK
 | some (w,k)=>.tup [.str w,.int k]
theorem G1{a b:D}:xh (.tup [a,b])=(kN 4 a&&(!jg 0 a)&&kN 8 b):=rfl
theorem vk{n:Int}{a:D}(h:yZ a=false):kN n a=false:=by cases a<;>first | rfl | cases h
theorem Co{a:D}(h:yZ a=true):∃l,a=.tup l:=by cases a<;>first | exact⟨_,rfl⟩ | cases h
def FN(F:Fn):Prop:=∀(M:ag)(x:D),Tz M x->aL (F [x] M) λr M'=>r=.d (Cn (oR x))/\Ex M M'
theorem Uc{G:a9}(hW:jS (G 22))(hT:fh (G 24))(T9:oQ (G 25))(KI:vj (G 26)):FN (aj G 8 QR):=by
 intro M x t;rw[bz];show eF G QR [some x,none,none,none,none,none,none,none] M _ _ _ _;have bad:xh x=false->∀M',Ex M M'->(W.d (.tup [.str "form",.int 0])=.d (Cn (oR x))/\Ex M M'):=λh M' g=>⟨by rw[qQ h];rfl,g⟩;nofun;refine(hT M x _ t.nl).imp ?_;rintro r M2 ⟨rfl,rfl⟩
 cases q:jg 2 x with
 | false=>nofun;exact⟨af (aW rfl),bad (u5 q) _ (Ex.refl M)⟩
 | true =>
  obtain⟨a,b,rfl⟩:=qO q;have ta:=t.dk (d:=a) (by simp);have tb:=t.dk (d:=b) (by simp);rw[G1]at bad;nofun;rw[tq ta.nl]
  cases qa:yZ a with
  | false=>nofun;exact⟨af (aW rfl),bad (by rw[vk qa];rfl) _ (Ex.refl M)⟩
  | true =>
  nofun;rw[tq tb.nl]
  cases qb:yZ b with
  | false=>nofun;exact⟨af (aW rfl),bad (by rw[vk qb,iB]) _ (Ex.refl M)⟩
  | true =>
  obtain⟨ru,rfl⟩:=Co qa;obtain⟨ro,rfl⟩:=Co qb;have e0:(kN 4 (.tup ru)&&(!jg 0 (.tup ru))&&kN 8 (.tup ro))=(decide ((ru.length:Int)<=4)&&(!((ru.length:Int)==0))&&decide ((ro.length:Int)<=8)):=rfl;rw[e0]at bad;nofun;by_cases k1:(1:Int)<=ru.length
  ·rw[bB k1];nofun;by_cases Q6:(ru.length:Int)<=4
   ·rw[bB Q6];nofun;by_cases k3:(8:Int)<ro.length
    ·rw[bB k3];nofun;exact⟨af (aW rfl),bad (by rw[bx (show ¬(ro.length:Int)<=8 by omega),iB]) _ (Ex.refl M)⟩
    ·rw[bx k3]
     have hf:xh (.tup [.tup ru,.tup ro])=true:=by
      rw[G1,e0,bB Q6,bB (show(ro.length:Int)<=8 by omega),show((ru.length:Int)==0)=false by rw[iR];omega];rfl
     have ed:=jQ hf;clear bad;nofun;refine⟨⟨∅,∅⟩,?_⟩;refine jM (n:=(ro.length:Int).toNat) (λi ρ M'=>∃o3,ρ=[some (.tup [.tup ru,.tup ro]),some (.tup ru),some (.tup ro),o3,none,none,none,none]/\Ex M M'/\tT ru.length 0 ro=tT ru.length i (ro.drop i)/\∀d∈ro.take i,tS ru.length d=true) ⟨none,rfl,Ex.refl M,rfl,λd hd=>by cases hd⟩ ?_ ?_
     ·rintro i ρ M' hi ⟨o3,rfl,g,er,al⟩;rw[show(0:Int)+(i:Int)=((i:Nat):Int) by omega];have hd:ro[i]?=some ro[i]:=eK ∅;generalize ro[i]=d at hd;rw[dX hd,ib]at er;nofun;rw[fM hd];nofun;refine(T9 M' d ru.length ((tb.dk (dC hd)).ex g)).imp ?_;rintro r M2 ⟨rfl,rfl⟩
      cases q1:tS ru.length d with
      | false =>
       rw[q1]at er;nofun;refine⟨af (aW rfl),?_,g⟩;rw[ed,er];rfl
      | true =>
       rw[q1]at er;nofun;exact⟨_,rfl,g,er,jR hd al q1⟩
     ·rintro ρ M' ⟨o3,rfl,g,er,al⟩;rw[oV]at al er;rw[xM]at al;rw[xN]at er;rw[er]at ed;have ed:oR (.tup [.tup ru,.tup ro])=nN ro 0 0 ru:=ed
      have zg:∀d∈ro,∃a r,d=D.tup (.int a::r):=λd hd=>by
       obtain⟨a,b,k,e,_⟩:=vd (al d hd);exact⟨a,_,e⟩
      nofun;refine⟨⟨∅,∅⟩,?_⟩;refine jM (n:=(ru.length:Int).toNat) (λi ρ M'=>∃o3 o5 o6 o7 k,ρ=[some (.tup [.tup ru,.tup ro]),some (.tup ru),some (.tup ro),o3,some (.int k),o5,o6,o7]/\Ex M M'/\nN ro 0 0 ru=nN ro i k (ru.drop i)) ⟨_,none,none,none,0,rfl,g,rfl⟩ ?_ ?_
      ·rintro i ρ M' hi ⟨o3,o5,o6,o7,k,rfl,g,er⟩;rw[show(0:Int)+(i:Int)=((i:Nat):Int) by omega];have hd:ru[i]?=some ru[i]:=eK ∅;generalize ru[i]=d at hd;have td:=ta.dk (dC hd);rw[dX hd,ic]at er
       have bad:y0 d=false->∀M',Ex M M'->([D.str "rule",.int i].length<=sizeLine/\W.d (.tup [.str "rule",.int i])=.d (Cn (oR (.tup [.tup ru,.tup ro])))/\Ex M M'):=λh M' g=>by
        rw[h]at er;exact⟨af (aW rfl),by rw[ed,er];rfl,g⟩
       nofun;rw[fM hd];nofun;refine(hT M' d _ (td.ex g).nl).imp ?_;rintro r M2 ⟨rfl,rfl⟩
       cases q1:jg 2 d with
       | false=>nofun;exact bad (u_ q1) _ g
       | true =>
        obtain⟨s,m,rfl⟩:=qO q1;have ts:=td.dk (d:=s) (by simp);have tm:=td.dk (d:=m) (by simp);have e3:y0 (.tup [s,m])=(eR 0 100 s&&kN 30 m):=rfl;rw[e3]at bad er;nofun;refine(hW M' s 0 99 (ts.ex g).nl).imp ?_;rintro r M2 ⟨rfl,rfl⟩;rw[show LK 0 99 s=eR 0 100 s from kP (s:=100)]
        cases q2:eR 0 100 s with
        | false=>nofun;exact bad (by rw[q2];rfl) _ g
        | true =>
        nofun;rw[tq (tm.ex g).nl]
        cases q3:yZ m with
        | false=>nofun;exact bad (by rw[vk q3,iB]) _ g
        | true =>
        obtain⟨mv,rfl⟩:=Co q3;have e4:kN 30 (.tup mv)=decide ((mv.length:Int)<=30):=rfl;rw[e4,q2]at bad er;nofun;by_cases k4:(30:Int)<mv.length
        ·rw[bB k4];nofun;exact bad (by rw[bx (show ¬(mv.length:Int)<=30 by omega)];rfl) _ g
        ·rw[bx k4];rw[bB (show(mv.length:Int)<=30 by omega)]at er
         have er:nN ro 0 0 ru=(match ly (dY ro i) [] mv with
          | some j=>some (("move" : Str),(k+j:Int))
          | none=>nN ro (i+1) (k+mv.length) (ru.drop (i+1))):=er
         clear bad;nofun;refine⟨⟨∅,∅⟩,?_⟩;refine jM (n:=(mv.length:Int).toNat) (λj ρ M'=>∃o3 o7,ρ=[some (.tup [.tup ru,.tup ro]),some (.tup ru),some (.tup ro),o3,some (.int (k+j)),some (.int i),some (.tup [s,.tup mv]),o7]/\Ex M M'/\ly (dY ro i) [] mv=ly (dY ro i) (mv.take j) (mv.drop j)/\∀d∈mv.take j,nM (dY ro i) d=true) ⟨o3,o7,by rw[show k+((0:Nat):Int)=k by omega];rfl,g,rfl,λd hd=>by cases hd⟩ ?_ ?_
         ·rintro j ρ M' hj ⟨o3,o7,rfl,g,em,al⟩;rw[show(0:Int)+(j:Int)=((j:Nat):Int) by omega];have YN:j<mv.length:=∅;have hd:mv[j]?=some mv[j]:=eK YN;generalize mv[j]=d at hd;have td:=tm.dk (dC hd);have YO:(mv.take j).length=j:=by rw[fD];omega
          rw[dX hd]at em;have em:ly (dY ro i) [] mv=if (nM (dY ro i) d && !FI (mv.take j) d)=true then ly (dY ro i) (mv.take j++[d]) (mv.drop (j+1)) else some (mv.take j).length:=em
          rw[YO,<- cS hd]at em
          have bad:(nM (dY ro i) d && !FI (mv.take j) d)=false->∀M',Ex M M'->([D.str "move",.int (k+j)].length<=sizeLine/\W.d (.tup [.str "move",.int (k+j)])=.d (Cn (oR (.tup [.tup ru,.tup ro])))/\Ex M M'):=λh M' g=>by
           rw[h]at em;rw[em]at er;exact⟨af (aW rfl),by rw[ed,er];rfl,g⟩
          nofun;rw[fM hd];nofun;refine(KI M' d ro i (td.ex g) zg).imp ?_;rintro r M2 ⟨rfl,g2⟩
          cases q5:nM (dY ro i) d with
          | false =>
           nofun;exact bad (by rw[q5];rfl) _ (Ex.trans g g2)
          | true =>
           obtain⟨s1,c1,a1,sd,w,rfl,_⟩:=kO q5;have tc:=td.dk (d:=.str c1) (by simp);have es:FI (mv.take j) (.tup [.int s1,.str c1,.int a1,.tup sd,w])=(mv.take j).any (Cj s1 c1):=rfl;rw[q5,es]at bad em
           have YQ:∀d∈mv.take j,∃s c r,d=D.tup (.int s::.str c::r)/\PyData.strOk c=true:=λd hd=>by
            obtain⟨s,c,a,sd,w,rfl,_⟩:=kO (al d hd);exact⟨s,c,_,rfl,((tm.dk (xy hd)).dk (d:=.str c) (by simp)).st.1⟩
           nofun;rw[fM hd];nofun;rw[mX (show j<=mv.length by omega)];refine wN (ds:=mv.take j) (λd=>some (k2 d)) (by decide) jN (af ∅) ?_ ?_ rfl
           ·intro i' M' d hd g3;obtain⟨s,c,a,sd,w,rfl,_⟩:=kO (al d (dC hd));nofun;exact⟨rfl,g3⟩
           ·intro M3 g3;rw[qM,Ub];nofun;rw[FL YQ tc.st.1]
            cases q6:(mv.take j).any (Cj s1 c1)with
            | true =>
             nofun;exact bad (by rw[q6];rfl) _ (Ex.trans (Ex.trans g g2) g3)
            | false =>
             rw[q6]at em;nofun;refine⟨o3,some (.int j),?_,Ex.trans (Ex.trans g g2) g3,em,jR hd al q5⟩;rw[show k+(j:Int)+1=k+((j+1:Nat):Int) by omega];rfl
         ·rintro ρ M' ⟨o3,o7,rfl,g,em,al⟩;rw[oV]at em;rw[xN]at em;have em:ly (dY ro i) [] mv=none:=em;rw[em]at er;nofun;refine⟨_,_,_,_,_,rfl,g,?_⟩;rw[oV];exact er
      ·rintro ρ M' ⟨o3,o5,o6,o7,k,rfl,g,er⟩;rw[oV,xN]at er;nofun;exact⟨by rw[ed,er];rfl,g⟩
   ·rw[bx Q6];nofun;exact⟨af (aW rfl),bad (by rw[bx Q6];rfl) _ (Ex.refl M)⟩
  ·rw[bx k1];nofun;exact⟨af (aW rfl),bad (by rw[show((ru.length:Int)==0)=true by rw[eB];omega];simp) _ (Ex.refl M)⟩
end br
end
section
namespace br
open L2 Ev
open PySem PySem.Spec PyProof.Rows
theorem FO{j:Nat}{o:aS}{nx bk ct:En->ag->Prop}{rt:W->ag->Prop}(h:@eA d9 o (λρ M=>nx (ρ.set j none) M) (λ_ _=>False) (λ_ _=>False) (λ_ _=>False)):eA (o.Lu j) nx rt bk ct:=by
 cases o with
 | nx ρ M=>rw[@cT d9]at h;show eA (.nx (ρ.set j none) M) _ _ _ _;rw[cT];exact h
 | rt _ _=>rw[@g_ d9]at h;exact h.elim
 | bk _ _=>rw[@kI d9]at h;exact h.elim
 | ct _ _=>rw[@kJ d9]at h;exact h.elim
 | er _ _=>rw[@hU d9]at h;exact h.elim
 | ae=>rw[@dj d9]at h;exact h.elim
theorem FP{G:a9}{b:TB}{cb:Str}{mt:List (Addr×List Str)}{j:Nat}{h:List S}{ρ:En}{M M1 M2:ag}{ds:List D}{x:tQ}{nx bk ct:En->ag->Prop}{rt:W->ag->Prop}(h1:a8 G b.args ρ M=.ok ds M1)(h2:G b.fn ds M1=.err x M2)(h3:mt.lookup x.cls=some (x.fs.map (·.1)))(h4:eF G h (ρ.set j (some (.aC M2.length))) (M2++[.xc x.cls x.fs]) (λρ M=>nx (ρ.set j none) M) (λ_ _=>False) (λ_ _=>False) (λ_ _=>False)):eA (gw G (.kH b cb mt j h) ρ M) nx rt bk ct:=by
 rw[mM,h1];dsimp only;rw[h2];dsimp only;rw[aU h3];exact FO (by rw[qz];exact h4)
theorem FQ{G:a9}{i f:Nat}{cs:List C}{cb:Str}{mt:List (Addr×List Str)}{j:Nat}{h:List S}{ρ:En}{M M1 M2:ag}{ds:List D}{d:D}{nx bk ct:En->ag->Prop}{rt:W->ag->Prop}(h1:a8 G cs ρ M=.ok ds M1)(h2:G f ds M1=.ok (.d d) M2)(h4:nx (ρ.set i (some (.tup [d]))) M2):eA (gw G (.kH (.nI i f cs) cb mt j h) ρ M) nx rt bk ct:=by
 rw[mM,show(TB.nI i f cs).args=cs from rfl,h1];dsimp only;rw[show(TB.nI i f cs).fn=f from rfl,h2];show eA (.nx (ρ.set i (some (.tup [d]))) M2) _ _ _ _;rw[cT];exact h4
theorem vm{tb:List (Addr×Bool)}{M:ag}{n:Nat}{C:Addr}{fs:List (Str×D)}{b:Bool}(h:M[n]?=some (.xc C fs))(hl:tb.lookup C=some b):yG tb (.d (.aC n)) M=.ok (.d (.bl b)) M:=by
 unfold yG;simp only[h,hl]
theorem G2{f:Str}{M:ag}{n:Nat}{C:Addr}{fs:List (Str×D)}{d:D}(h:M[n]?=some (.xc C fs))(hl:fs.lookup f=some d):Lk f (.d (.aC n)) M=.ok (.d d) M:=by
 unfold Lk;simp only[h,hl]
noncomputable def G3:Option (Str×Int)->D
 | none=>.tup [.bl true]
 | some (w,k)=>.tup [.str w,.int k]
def Cp(F:Fn):Prop:=∀(M:ag)(x:D),Tz M x->aL (F [x] M) λr M'=>r=.d (G3 (oR x))/\Ex M M'
theorem Pt{G:a9}(hR:vg (G 14)):Cp (aj G 3 QX):=by
 intro M x t;have h:=hR M x t;rw[bz];show eF G QX [some x,none,none] M _ _ _ _;nofun;refine⟨af (aW rfl),?_⟩;nofun
 cases e:G 14 [x] M with
 | ae=>rw[e,@aw ⟨_⟩]at h;exact h.elim
 | ok w M1 =>
  rw[e,@aJ ⟨_⟩]at h;obtain⟨rfl,e1,g⟩:=h;refine FQ rfl e ?_;nofun;exact⟨by rw[e1];rfl,g⟩
 | err y M1 =>
  rw[e,@cZ ⟨_⟩]at h;obtain⟨⟨w,k,e1,rfl⟩,g⟩:=h;refine FP rfl e rfl ?_;have hx:(M1++[MO.xc (LI w k).cls (LI w k).fs])[M1.length]?=some (.xc 44 [("word",.str w),("number",.int k)]):=aP;nofun;refine⟨af (aW rfl),?_⟩;nofun;rw[vm (tb:=[(44,true)]) (b:=true) hx rfl];nofun;rw[vm (tb:=[(44,true)]) (b:=true) hx rfl];nofun;rw[G2 (d:=.str w) hx rfl];nofun;rw[G2 (d:=.int k) hx rfl];nofun;refine⟨af (aW rfl),?_⟩;nofun;rw[vm (tb:=[(44,false)]) (b:=false) hx rfl];nofun;exact⟨by rw[e1];rfl,g.app⟩
theorem Cq{n:Int}:∀{ds:List D}{k j:Nat},tT n k ds=some j->j<=k+ds.length
 | [],_,_,h=>by cases h
 | d::ds,k,j,h=>by
  rw[ib]at h;split at h
  ·have:=Cq h;rw[fE];omega
  ·cases h;omega
theorem Cr{ns:List Int}:∀{ds pre:List D}{j:Nat},ly ns pre ds=some j->j<=pre.length+ds.length
 | [],_,_,h=>by cases h
 | d::ds,pre,j,h=>by
  have h:(if (nM ns d && !FI pre d)=true then ly ns (pre++[d]) ds else some pre.length)=some j:=h;split at h
  ·have:=Cr h;rw[bY]at this;rw[fE];simp at this;omega
  ·cases h;omega
theorem Cs{ro:List D}:∀{rs:List D}{m:Nat}{k j:Int}{w:Str},nN ro m k rs=some (w,j)->0<=k->(w = "rule" \/ w = "move")/\0<=j/\j<=m+k+32*rs.length
 | [],_,_,_,_,h,_=>by cases h
 | r::rs,m,k,j,w,h,hk=>by
  rw[ic]at h
  cases q:y0 r with
  | false =>
   rw[q]at h;cases h;exact⟨.inl rfl,∅,by rw[fE];omega⟩
  | true =>
   rw[q]at h;obtain⟨s,mv,rfl,LJ,em⟩:=vf q;rw[em]at h
   cases q2:ly (dY ro m) [] mv with
   | some i =>
    rw[q2]at h;have:=Cr q2;cases h;rw[q_]at this;exact⟨.inr rfl,∅,by rw[fE];omega⟩
   | none =>
    rw[q2]at h;have h:nN ro (m+1) (k+mv.length) rs=some (w,j):=h;obtain⟨a,b,c⟩:=Cs h ∅;exact⟨a,b,by rw[fE];omega⟩
theorem KR{x:D}{w:Str}{k:Int}(h:oR x=some (w,k)):w∈uY/\k.natAbs<=1000:=by
 cases q:xh x with
 | false=>rw[qQ q]at h;cases h;exact⟨⋯,by decide⟩
 | true =>
  obtain⟨ru,ro,rfl,l1,l4,l8⟩:=vc q;rw[jQ q]at h
  cases q2:tT ru.length 0 ro with
  | some j =>
   rw[q2]at h;cases h;have:=Cq q2;exact⟨⋯,∅⟩
  | none =>
   rw[q2]at h;have h:nN ro 0 0 ru=some (w,k):=h;obtain⟨a,b,c⟩:=Cs h (Int.le_refl _);refine⟨?_,∅⟩;rcases a with rfl | rfl<;>decide +kernel
def vn(F:Fn):Prop:=∀(M:ag)(B L c h:Nat)(x:D),Tg M B L c h x->B<10 ^ 20->L<=60->c<=4000000->h<=30->aL (F [x] M) λr M'=>r=.d (.bl true)/\Ex M M'
theorem KS{G:a9}(Pu:FN (G 27))(Pn:Cp (G 31)):vn (aj G 4 QZ):=by
 intro M B L c h x t hB hL hc hh;obtain⟨y,hy,hp⟩:=xg hB t hc hh;have tz:Tz M x:=⟨B,L,c,h,t,hB,hL,hh⟩;rw[bz];show eF G QZ [some x,none,none,none] M _ _ _ _;nofun;refine(Pu M x tz).imp ?_;rintro r M1 ⟨rfl,g1⟩;nofun;rw[hp M1 g1];nofun;refine(Pn M1 x (tz.ex g1)).imp ?_;rintro r M2 ⟨rfl,g2⟩;have g:=Ex.trans g1 g2;nofun;rw[hp M2 g];nofun;rw[OY hy hy,xJ]
 cases q:oR x with
 | none =>
  nofun;exact⟨rfl,g⟩
 | some p =>
  obtain⟨w,k⟩:=p;obtain⟨l1,l2⟩:=KR q;have tt:Tg M2 (10 ^ 12) 60 605 1 (.tup [.str w,.int k]):=.tup 600 _ _ _ (.cons _ 300 300 _ _ _ (.at _ _ _ (.inl l1) (ar _)) (.cons _ 300 0 _ _ _ (.at _ _ _ (show k.natAbs<=10 ^ 12 by omega) (ar _)) (.nil _ _) ∅) ∅) ∅ (show 2<=60 by omega);obtain⟨z,hz,hq⟩:=xg (by decide) tt (by decide) (by decide);have hq:=hq M2 (Ex.refl M2);nofun;have e:∀d,d=D.tup [.str w,.int k]->gI .iI [.d d] M2=.ok (.d (.str z)) M2:=λd e=>by rw[e];exact hq
  rw[e (G3 (some (w,k))) rfl];nofun;rw[e (Cn (some (w,k))) rfl];nofun;rw[OX hz hz,xJ];exact⟨rfl,g⟩
end br
end
section
namespace br
open L2 Ev
open PySem PySem.Spec PyProof.Rows
section
variable {M M':ag} {B L:Nat}
noncomputable def Ls(M M':ag):Prop:=∀(n:Nat) ds,M[n]?=some (.lst ds)->M'[n]?=some (.lst ds)
theorem Ls.ex(f:Ex M M'):Ls M M':=λn ds h=>Ex.get f h
theorem Ls.fr{w:Nat}{T:Int}(f:Fr w M M')(h:WA M w T):Ls M M':=λn ds k=>f.get k (by
 rintro rfl;obtain⟨c,l,t,h,_⟩:=h;rw[k]at h;cases h)
mutual
theorem Tg.ls(f:Ls M M'):∀{c h:Nat}{d:D},Tg M B L c h d->Tg M' B L c h d
 | _,_,_,.at c h d a hc=>.at _ _ _ a hc
 | _,_,_,.tup c e h ds t hc hl=>.tup c _ h ds (Ts.ls f t) hc hl
 | _,_,_,.lst c e h n ds hM t hc hl=>.lst c _ h n ds (f n ds hM) (Ts.ls f t) hc hl
theorem Ts.ls(f:Ls M M'):∀{c h:Nat}{ds:List D},Ts M B L c h ds->Ts M' B L c h ds
 | _,_,_,.nil c h=>.nil _ _
 | _,_,_,.cons c c1 c2 h d ds t r hc=>.cons _ c1 c2 _ d ds (Tg.ls f t) (Ts.ls f r) hc
end
end
theorem lI{M:ag}{n:Nat}{xs ys:List D}(h:M[n]?=some (.lst xs))(hl:xs.length+ys.length<=sizeLine):pT .add (.d (.aC n)) (.lv ys) M=.ok (.lv (xs++ys)) M:=by
 have e1:dH M (.d (.aC n))=some xs:=by unfold dH;simp only[h]
 have e2:pT .add (.d (.aC n)) (.lv ys) M=(match dH M (.d (.aC n)),dH M (.lv ys)with
  | some xs,some ys=>if xs.length+ys.length<=sizeLine then .ok (.lv (xs++ys)) M else .ae
  | _,_=>.ae):=Eq.trans rfl rfl
 rw[e2,e1,show dH M (.lv ys)=some ys from rfl];exact aU hl
theorem KU{M:ag}{n:Nat}{xs:List D}(h:M[n]?=some (.lst xs)):(dH M (.d (.aC n))).isSome=true:=by
 have e1:dH M (.d (.aC n))=some xs:=by unfold dH;simp only[h]
 rw[e1];rfl
theorem str_int{M:ag}{i:Int}(h:i.natAbs<10 ^ 20):gI .str1 [.d (.int i)] M=.ok (.d (.str (tj i))) M:=by
 have e2:gI .str1 [.d (.int i)] M=if i.natAbs.log2<1920 then .ok (.d (.str (Str.ofString (toString i)))) M else .ae:=Eq.trans rfl rfl
 rw[e2,aU ?_]
 ·rfl
 ·rcases C3 i.natAbs with z | z
  ·rw[z];decide
  ·exact(Nat.log2_lt ∅).mpr (ft h (bJ (show 10 ^ 20<=2 ^ 70 by decide) (Nat.pow_le_pow_right (by decide) (by decide))))
def aN:Nat->Nat
 | 0=>300
 | h+1=>5*aN h+5
section
variable {M:ag} {B L h:Nat} {a b d:D}
def Mt(M:ag)(B L h:Nat)(d:D):Prop:=Tg M B L (aN h) h d
theorem Ct:∀h,300<=aN h
 | 0=>ar _
 | h+1=>by have:=Ct h;show 300<=5*aN h+5;omega
theorem Pw(q:At B d):Mt M B L h d:=.at _ _ _ q (Ct h)
theorem Ts.all{c:Nat}:∀{ds:List D},(∀d∈ds,Tg M B L c h d)->Ts M B L (ds.length*c) h ds
 | [],_=>.nil _ _
 | x::ds,p=>.cons _ c (ds.length*c) _ _ _ (p x dD) (Ts.all λd hd=>p d (dB _ hd)) (by rw[fE,Nat.succ_mul];omega)
theorem YR{ds:List D}(hL:5<=L)(hl:ds.length<=5)(p:∀d∈ds,Mt M B L h d):Mt M B L (h+1) (.tup ds) :=
 .tup (5*aN h) _ _ _ ((Ts.all p).mono (Ex.refl _) (ar _) (ar _) (Hm _ hl) (ar _)) (ar _) ∅
theorem YS{n:Nat}(k:M[n]?=some (.lst [])):Mt M B L (h+1) (.aC n):=.lst 0 _ _ n _ k (.nil _ _) (by show 0+5<=5*aN h+5;omega) (jk _)
theorem atS{s:Str}(q:s∈uY):At B (.str s):=.inl q
theorem bM{p:D->Prop}:∀d∈([]:List D),p d:=λd h=>by cases h
theorem all_cons{p:D->Prop}{l:List D}(h:p a)(k:∀d∈l,p d):∀d∈a::l,p d:=λd q=>by
 rcases cq.mp q with z | z
 ·rw[z];exact h
 ·exact k d z
theorem cg{p:D->Prop}{l r:List D}(h:∀d∈l,p d)(k:∀d∈r,p d):∀d∈l++r,p d:=λd q=>(gO.mp q).elim (h d) (k d)
theorem eS{p:D->Prop}{n:Nat}{l:List D}(h:∀d∈l,p d):∀d∈(List.replicate n l).flatten,p d:=λd q=>by
 obtain⟨x,hx,hd⟩:=List.mem_flatten.mp q;rw[(List.mem_replicate.mp hx).2]at hd;exact h d hd
theorem Ts.cutD{c:Nat}{ds:List D}(t:Ts M B L c h ds)(lo hi:Option Int):Ts M B L c h (Ev.cutD ds lo hi):=by
 unfold Ev.cutD;obtain⟨a,b,e,_,t1⟩:=t.cut (HT.cE ds.length 0 lo);obtain⟨a2,b2,e2,t2,_⟩:=t1.cut (HT.cE ds.length ds.length hi-HT.cE ds.length 0 lo);exact t2.mono (Ex.refl _) (ar _) (ar _) ∅ (ar _)
end
theorem xn{ds:List D}{lo hi:Option Int}:(Ev.cutD ds lo hi).length<=ds.length:=by
 unfold Ev.cutD;rw[fD,kZ];omega
theorem xo{ds:List D}:(Ev.cutD ds none (some 1)).length<=1:=by
 unfold Ev.cutD;rw[fD,show HT.cE ds.length ds.length (some 1)=min 1 ds.length from HT.pC _ _ 1];omega
theorem Ud{M:ag}{A B C E:List D}:((M++[MO.lst A]++[MO.lst []]++[MO.lst B]++[MO.lst C]).set (M++[MO.lst A]++[MO.lst []]++[MO.lst B]).length (MO.lst E))[(M++[MO.lst A]++[MO.lst []]++[MO.lst B]).length]?=some (.lst E)/\((M++[MO.lst A]++[MO.lst []]++[MO.lst B]++[MO.lst C]).set (M++[MO.lst A]++[MO.lst []]++[MO.lst B]).length (MO.lst E))[(M++[MO.lst A]).length]?=some (.lst [])/\Ex M ((M++[MO.lst A]++[MO.lst []]++[MO.lst B]++[MO.lst C]).set (M++[MO.lst A]++[MO.lst []]++[MO.lst B]).length (MO.lst E)):=by
 have hQ:(M++[MO.lst A]).length<(M++[MO.lst A]++[MO.lst []]++[MO.lst B]).length:=by simp only[bY,fE,q_];omega
 have hP:M.length<=(M++[MO.lst A]++[MO.lst []]++[MO.lst B]).length:=by simp only[bY,fE,q_];omega
 have f0:Ex M (M++[MO.lst A]++[MO.lst []]++[MO.lst B]++[MO.lst C]):=(Ex.refl M).app.app.app.app;exact⟨d_ aP,qA (cR (cR aP)) ∅,Fr.set f0 hP⟩
def mA(n:Nat):List D:=[D.aK,D.bl true,D.bl false,D.int (-1),D.int 0,D.int 1,D.int 3,D.int 8,D.int 99,D.int 100,D.int (10 ^ Int.toNat 19),D.str "",D.str "own",D.str "a",D.str "A",D.str "ab",D.str "abcdefgh",D.str "abcdefghi"]++[D.str "row",D.str "heap",D.str "rows",D.str "a1",D.tup [],D.aC n,D.tup [D.tup [],D.tup []],D.tup [D.int 0,D.tup []],D.tup [D.int 0,D.int 1,D.str "row"],D.tup [D.int 1,D.int 1,D.str "heap"]]++[D.tup [D.int 0,D.str "a"],D.tup [D.str "own",D.int 0]]++[D.tup [D.int 0,D.str "own",D.int 0,D.tup [],D.aK]]
theorem KW{n:Nat}:(mA n).length=31:=rfl
theorem KY{M:ag}{B L n:Nat}(hB:10 ^ 19<=B)(hL:5<=L)(k:M[n]?=some (.lst [])):∀d∈mA n,Mt M B L 2 d:=by
 have hn:∀i:Int,i.natAbs<=1000->∀h,Mt M B L h (.int i):=λi q h=>Pw (show i.natAbs<=B by omega);have h9:Mt M B L 2 (.int (10 ^ Int.toNat 19)):=Pw (show((10:Int) ^ Int.toNat 19).natAbs<=B from bJ (by decide) hB);have nn:∀h,Mt M B L h .aK:=λh=>Pw trivial;have bb:∀b,Mt M B L 2 (.bl b):=λb=>Pw trivial;have nl:Mt M B L 2 (.aC n):=YS k;unfold mA;refine cg (cg (cg ?_ ?_) ?_) ?_<;>(repeat' (first | exact bM | refine all_cons ?_ ?_ | refine YR hL (aW rfl) ?_))<;>first | exact h9 | exact hn _ (by decide) _ | exact Pw (atS ⋯) | exact nn _ | exact bb _ | exact nl
def FR(F:Fn):Prop:=∀(M:ag)(w:Nat)(T:Int)(B L c h:Nat)(x:D),WA M w T->T<2 ^ 39->Tg M B L c h x->10 ^ 19<=B->B<10 ^ 19+100->5<=L->L<=50->2<=h->aL (F [.aC w,x] M) λr M'=>∃d,r=.d d/\Tg M' (B+1) (L+1) (2*c+8000) (h+1) d/\WA M' w (T+1)/\Fr w M M'
theorem Ue{G:a9}(hD:dW (G 16)):FR (aj G 3 QT):=by
  intro M w T B L c h x hw hT t hB Px hL Ug hh;rw[bz];show eF G QT [some (.aC w),some x,none] M _ _ _ _;nofun
  repeat (refine⟨af (aW rfl),?_⟩;nofun)
  rw[lI (cR aP) (af (aW rfl))];nofun
  repeat (refine⟨af (aW rfl),?_⟩;nofun)
  rw[lI aP (af (aW rfl))];nofun;refine⟨KU aP,?_⟩;nofun
  repeat (refine⟨af (aW rfl),?_⟩;nofun)
  rw[h_ aP (cy (aW rfl))];nofun;generalize hn:(M++[MO.lst _]++[MO.lst []]++[MO.lst _]:ag).length=n3;generalize VH:(List.set (_:List MO) n3 _)=M3
  obtain⟨n0,m1,m2,m3⟩:∃n0,M3[n3]?=some (.lst (mA n0))/\M3[n0]?=some (.lst [])/\Ex M M3:=by
    rw[<- VH,<- hn];exact⟨_,Ud⟩
  clear VH hn;have t3:Tg M3 B L c h x:=t.ls (Ls.ex m3);have m8:WA M3 w T:=hw.fr m3 (eW hw.lt);have f3:Fr w M M3:=(Fr.refl w M).ex m3 (.inl hw.lt);have wY:∀d∈mA n0,Tg M3 (B+1) (L+1) (2*c+8000) (h+1) d:=λd hd=>Tg.mono (Ex.refl _) ∅ ∅ (KY hB hL m2 d hd) (bJ (show aN 2<=8000 by decide) ∅) ∅;have bf:(mA n0).length=31:=KW;generalize mA n0=A at m1 wY bf;clear m2
  have tail : ∀ (M4 : ag) (n4 : Nat) (ds : List D), M4[n4]? = some (.lst ds) -> WA M4 w T -> Fr w M M4 -> 0 < ds.length -> ds.length <= 100 -> (∀ d ∈ ds, Tg M4 (B + 1) (L + 1) (2 * c + 8000) (h + 1) d) ->
      aL (G 16 [.aC w,.int ds.length] M4) λr M5=>∃i x,r=.d (.int i)/\0<=i/\ds[i.toNat]?=some x/\M5[n4]?=some (.lst ds)/\Tg M5 (B+1) (L+1) (2*c+8000) (h+1) x/\WA M5 w (T+1)/\Fr w M M5:=λM4 n4 ds k1 k2 k3 k4 k5 k6=>by
    refine(hD M4 w T ds.length k2 ∅ ∅ ∅).imp ?_;rintro r M5 ⟨i,e,i0,i1,jW,f5⟩;have hi:i.toNat<ds.length:=∅;have eg:ds[i.toNat]?=some ds[i.toNat]:=eK hi;have ls:=Ls.fr f5 k2;exact⟨i,_,e,i0,eg,ls _ _ k1,(k6 _ (dC eg)).ls ls,jW,k3.trans f5⟩
  rw[tq t3.nl]
  cases x with
  | tup ds =>
    obtain⟨e,k,he,rfl,ts,Uh⟩:=t3.tupI;have c1:=xo (ds:=ds);nofun;refine⟨af (aW rfl),?_⟩;nofun;refine⟨af (by show _+1<=1000;omega),?_⟩;nofun;refine⟨af ∅,?_⟩;nofun;refine⟨af (aW rfl),?_⟩;nofun;refine⟨af (aW rfl),?_⟩;nofun
    have Py:∀d∈[D.aC M3.length,.tup (ds++[D.int 0]),.tup (Ev.cutD ds none (some (-1))),.tup (Ev.cutD ds (some 1) none),.tup (ds++Ev.cutD ds none (some 1)),.tup [.tup ds]],Tg (M3++[MO.lst ds]) (B+1) (L+1) (2*c+8000) (k+1+1) d:=by
      have x1:Ex M3 (M3++[MO.lst ds]):=(Ex.refl M3).app;have LL:Ts (M3++[MO.lst ds]) (B+1) (L+1) e (k+1) ds:=ts.mono x1 ∅ ∅ (ar _) ∅;refine all_cons ?_ (all_cons ?_ (all_cons ?_ (all_cons ?_ (all_cons ?_ (all_cons ?_ bM)))))
      · exact .lst e _ _ _ ds aP LL ∅ ∅
      · exact .tup (e+300) _ _ _ (LL.app (.cons _ 300 0 _ _ _ (.at _ _ _ (show(0:Int).natAbs<=B+1 from jk _) (ar _)) (.nil _ _) ∅)) ∅ (by rw[bY];show _+1<=_;omega)
      · exact .tup e _ _ _ (LL.cutD _ _) ∅ (bJ xn ∅)
      · exact .tup e _ _ _ (LL.cutD _ _) ∅ (bJ xn ∅)
      · exact .tup (e+e) _ _ _ (LL.app (LL.cutD _ _)) ∅ (by rw[bY];omega)
      · exact .tup (e+5) _ _ _ (.cons _ (e+5) 0 _ _ _ (.tup e _ _ _ (ts.mono x1 ∅ ∅ (ar _) (ar _)) (ar _) ∅) (.nil _ _) ∅) ∅ (by show 1<=L+1;omega)
    have VI:Ex M3 (M3++[MO.lst ds]):=(Ex.refl M3).app;have Ui:∀d∈A,Tg (M3++[MO.lst ds]) (B+1) (L+1) (2*c+8000) (k+1+1) d:=λd hd=>(wY d hd).ls (Ls.ex VI);have YT:(M3++[MO.lst ds])[n3]?=some (.lst A):=Ex.get VI m1;have Uj:WA (M3++[MO.lst ds]) w T:=m8.app;have YU:Fr w M (M3++[MO.lst ds]):=f3.app;generalize M3++[MO.lst ds]=N3 at *;generalize hS:[D.aC M3.length,.tup (ds++[D.int 0]),.tup (Ev.cutD ds none (some (-1))),.tup (Ev.cutD ds (some 1) none),.tup (ds++Ev.cutD ds none (some 1)),.tup [.tup ds]]=S6 at *;have Uk:S6.length=6:=by rw[<- hS];rfl
    have Ul:(List.replicate (Int.toNat 5) S6).flatten.length=30:=by
      rw[show Int.toNat 5=5 from rfl,Hq];simp[Uk]
    rw[lI YT (af ∅)];nofun;obtain⟨M4,e4⟩:∃M4,M4=N3++[MO.lst (A++(List.replicate (Int.toNat 5) S6).flatten)]:=⟨_,rfl⟩;have h4:M4[N3.length]?=some (.lst (A++(List.replicate (Int.toNat 5) S6).flatten)):=by rw[e4];exact aP
    have iP:WA M4 w T:=by rw[e4];exact Uj.app
    have f4:Fr w M M4:=by rw[e4];exact YU.app
    have Um:∀d∈A++(List.replicate (Int.toNat 5) S6).flatten,Tg M4 (B+1) (L+1) (2*c+8000) (k+1+1) d:=cg (λd hd=>(Ui d hd).ls (Ls.ex (by rw[e4];exact(Ex.refl N3).app))) (eS λd hd=>(Py d hd).ls (Ls.ex (by rw[e4];exact(Ex.refl N3).app)));have l0:0<(A++(List.replicate (Int.toNat 5) S6).flatten).length:=by rw[bY];omega
    have l1:(A++(List.replicate (Int.toNat 5) S6).flatten).length<=100:=by rw[bY];omega
    rw[<- e4];rw[dA h4];nofun;refine(tail M4 N3.length _ h4 iP f4 l0 l1 Um).imp ?_;rintro r M5 ⟨i,x,rfl,i0,eg,h5,tx,jW,f5⟩;nofun;rw[c_ h5 i0 eg];exact⟨_,rfl,tx,jW,f5⟩
  | int i =>
    have hi:=t3.num;nofun;rw[str_int ∅];nofun;refine⟨af (aW rfl),?_⟩;nofun
    have Py:∀d∈[D.int (i+1),D.int (i-1),D.str (tj i)],Tg M3 (B+1) (L+1) (2*c+8000) (h+1) d:=by
      refine all_cons ?_ (all_cons ?_ (all_cons ?_ bM))
      · exact .at _ _ _ (show(i+1).natAbs<=B+1 by omega) ∅
      · exact .at _ _ _ (show(i-1).natAbs<=B+1 by omega) ∅
      · exact .at _ _ _ (.inr ⟨i,∅,rfl⟩) ∅
    generalize hS:[D.int (i+1),D.int (i-1),D.str (tj i)]=S6 at *;have Uk:S6.length=3:=by rw[<- hS];rfl
    have Ul:(List.replicate (Int.toNat 3) S6).flatten.length=9:=by
      rw[show Int.toNat 3=3 from rfl,Hq];simp[Uk]
    rw[lI m1 (af ∅)];nofun;obtain⟨M4,e4⟩:∃M4,M4=M3++[MO.lst (A++(List.replicate (Int.toNat 3) S6).flatten)]:=⟨_,rfl⟩;have h4:M4[M3.length]?=some (.lst (A++(List.replicate (Int.toNat 3) S6).flatten)):=by rw[e4];exact aP
    have iP:WA M4 w T:=by rw[e4];exact m8.app
    have f4:Fr w M M4:=by rw[e4];exact f3.app
    have Um:∀d∈A++(List.replicate (Int.toNat 3) S6).flatten,Tg M4 (B+1) (L+1) (2*c+8000) (h+1) d:=cg (λd hd=>(wY d hd).ls (Ls.ex (by rw[e4];exact(Ex.refl M3).app))) (eS λd hd=>(Py d hd).ls (Ls.ex (by rw[e4];exact(Ex.refl M3).app)));have l0:0<(A++(List.replicate (Int.toNat 3) S6).flatten).length:=by rw[bY];omega
    have l1:(A++(List.replicate (Int.toNat 3) S6).flatten).length<=100:=by rw[bY];omega
    rw[<- e4];rw[dA h4];nofun;refine(tail M4 M3.length _ h4 iP f4 l0 l1 Um).imp ?_;rintro r M5 ⟨i,x,rfl,i0,eg,h5,tx,jW,f5⟩;nofun;rw[c_ h5 i0 eg];exact⟨_,rfl,tx,jW,f5⟩
  | bl b =>
    nofun;rw[dA m1];nofun;refine(tail M3 n3 _ m1 m8 f3 ∅ ∅ wY).imp ?_;rintro r M5 ⟨i,x,rfl,i0,eg,h5,tx,jW,f5⟩;nofun;rw[c_ h5 i0 eg];exact⟨_,rfl,tx,jW,f5⟩
  | str s =>
    nofun;rw[dA m1];nofun;refine(tail M3 n3 _ m1 m8 f3 ∅ ∅ wY).imp ?_;rintro r M5 ⟨i,x,rfl,i0,eg,h5,tx,jW,f5⟩;nofun;rw[c_ h5 i0 eg];exact⟨_,rfl,tx,jW,f5⟩
  | aK =>
    nofun;rw[dA m1];nofun;refine(tail M3 n3 _ m1 m8 f3 ∅ ∅ wY).imp ?_;rintro r M5 ⟨i,x,rfl,i0,eg,h5,tx,jW,f5⟩;nofun;rw[c_ h5 i0 eg];exact⟨_,rfl,tx,jW,f5⟩
  | aC n =>
    nofun;rw[Kx t3.nl];nofun;rw[dA m1];nofun;refine(tail M3 n3 _ m1 m8 f3 ∅ ∅ wY).imp ?_;rintro r M5 ⟨i,x,rfl,i0,eg,h5,tx,jW,f5⟩;nofun;rw[c_ h5 i0 eg];exact⟨_,rfl,tx,jW,f5⟩
  | ls l=>exact absurd t3.nl id
end br
end
section
namespace br
open L2 Ev
open PySem PySem.Spec PyProof.Rows
def tF(fN:Nat)(F:Fn):Prop:=∀(M:ag)(w:Nat)(T:Int)(B L c h:Nat)(x:D),WA M w T->T+3*fN<2 ^ 38->Tg M B L c h x->10 ^ 19<=B->B<10 ^ 19+100->5<=L->L<=50->2<=h->aL (F [.aC w,x,.int fN] M) λr M'=>∃d,r=.d d/\Tg M' (B+1) (L+1) (2*c+8000) (h+1+fN) d/\WA M' w (T+3*fN+3)/\Fr w M M'
theorem y1{G:a9}(hD:dW (G 16))(hO:FR (G 28))(fN:Nat)(hd:fN<=9)(ih:∀k,fN=k+1->tF k (G 29)):tF fN (aj G 4 LG):=by
 intro M w T B L c h x hw hT t hB Px hL Ug hh
 have odd:∀(M':ag)(u:Int),WA M' w u->u<=T+1->Fr w M M'->aL (G 28 [.aC w,x] M') λr KQ=>∃d,r=.d d/\Tg KQ (B+1) (L+1) (2*c+8000) (h+1+fN) d/\WA KQ w (T+3*fN+3)/\Fr w M KQ:=λM' u TY hu f=>by
  refine(hO M' w u B L c h x TY ∅ (t.ls (Ls.fr f hw)) hB Px hL Ug hh).imp ?_;rintro r M2 ⟨d,e,td,kX,f2⟩;exact⟨d,e,Tg.mono (Ex.refl _) (ar _) (ar _) td (ar _) ∅,kX.mono ∅,f.trans f2⟩
 have KZ:=odd M T hw ∅ (Fr.refl w M);rw[bz];show eF G LG [some (.aC w),some x,some (.int fN),none] M _ _ _ _;nofun;rw[tq t.nl]
 cases x with
 | tup ds =>
  obtain⟨e,k,he,rfl,ts,Uh⟩:=t.tupI;nofun
  cases q0:(((ds.length:Nat):Int)==0)with
  | true=>nofun;exact KZ
  | false =>
   have IP:0<ds.length:=by
    rcases C3 ds.length with z | z
    ·rw[z]at q0;cases q0
    ·exact z
   nofun
   cases q1:(((fN:Nat):Int)==0)with
   | true=>nofun;exact KZ
   | false =>
    obtain⟨m,rfl⟩:∃m,fN=m+1:=⟨fN-1,by
     rcases C3 fN with z | z
     ·rw[z]at q1;cases q1
     ·omega⟩
    nofun;refine(hD M w T 6 hw ∅ (by decide) (by decide)).imp ?_;rintro r M2 ⟨i,rfl,_,_,kX,f2⟩;nofun
    cases q2:(i==(0:Int))with
    | true=>nofun;exact odd M2 (T+1) kX (Int.le_refl _) f2
    | false =>
     nofun;refine(hD M2 w (T+1) ds.length kX ∅ ∅ ∅).imp ?_;rintro r M3 ⟨j,rfl,j0,j1,m8,f3⟩;obtain⟨j,rfl⟩:∃n:Nat,j=(n:Int):=⟨j.toNat,∅⟩;have hj:j<ds.length:=∅;have eg:ds[j]?=some ds[j]:=eK hj;generalize ds[j]=y at eg;have FF:=f2.trans f3;have YV:=ts.ls (Ls.fr FF hw);obtain⟨a,z,b,hc,ta,ty,tb⟩:=Ts.at YV eg;nofun;rw[fM eg];nofun;rw[show((m+1:Nat):Int)-1=(m:Int) by omega];refine(ih m rfl M3 w (T+2) B L z (k+1) y (m8.mono ∅) ∅ (Tg.mono (Ex.refl _) (ar _) (ar _) ty (ar _) ∅) hB Px hL Ug hh).imp ?_;rintro r M4 ⟨d,rfl,td,iP,f4⟩;have l4:=Ls.fr f4 m8;have YW:=Ts.ls l4 ta;have YX:=Ts.ls l4 tb;rw[mX ∅];nofun;refine⟨af (aW rfl),?_⟩;nofun;refine⟨af (by rw[fD];show _+1<=1000;omega),?_⟩;nofun;rw[show((j:Int)+1)=((j+1:Nat):Int) by omega,jT ∅];refine⟨af (by rw[bY,fD,kZ];show _+1+_<=1000;omega),?_⟩;nofun;refine⟨_,rfl,?_,iP.mono ∅,FF.trans f4⟩;have YY:Ts M4 (B+1) (L+1) a (k+1+1+m) (ds.take j):=YW.mono (Ex.refl _) ∅ ∅ (ar _) ∅;have YZ:Ts M4 (B+1) (L+1) b (k+1+1+m) (ds.drop (j+1)):=YX.mono (Ex.refl _) ∅ ∅ (ar _) ∅
     exact .tup (a+(2*z+8000)+b) _ _ _ ((YY.app (.cons (2*z+8000) (2*z+8000) 0 _ _ _ td (.nil _ _) ∅)).app YZ) ∅ (by
      rw[bY,bY,fD,kZ];show _+1+_<=L+1;omega)
 | _=>first | exact absurd t.nl id | (nofun;exact KZ)
theorem G4(hD:∀l,dW (cv (Pa l) 16))(hO:∀l,FR (cv (GU l) 28)):∀(n fN:Nat),fN<n->n<=9->tF fN (BK (GU []) 4 LG n)
 | 0,fN,h,_=>absurd h (Nat.not_lt_zero _)
 | n+1,fN,h,h9=>by
  refine y1 (G:=cv (GU []++[BK (GU []) 4 LG n])) (hD _) (hO _) fN ∅ λk e=>?_;exact G4 hD hO n k ∅ ∅
end br
end
section
namespace br
open L2 Ev
open PySem PySem.Spec PyProof.Rows
theorem Cu{M:ag}:∀{ds:List D},(∀d∈ds,Ev.wV d)->∃qs,bj M 30 ds=some qs/\qs.all SeqAt.shaped=true/\∀i:Int,gm (.int i) qs=false->D.int i∉ds
 | [],_=>⟨[],by unfold bj;rfl,rfl,λi _ h=>by cases h⟩
 | d::ds,h=>by
  obtain⟨k,rfl,_,_⟩:=h d (dD ..);obtain⟨qs,e,k1,k2⟩:=Cu (M:=M) (ds:=ds) λd hd=>h d (dB _ hd);refine⟨.int k::qs,by unfold bj;rw[e];unfold cL;rfl,?_,λi hi hm=>?_⟩
  ·rw[t5,kL,k1];rfl
  ·have hi:(PyData.eqv (.int k) (.int i)||gm (.int i) qs)=false:=hi;rw[Hl,zw]at hi;rcases cq.mp hm with z | z
   ·cases z;have:=hi.1;simp at this
   ·exact k2 i hi.2 z
theorem y2{M:ag}{n:Nat}{ds:List D}{d:D}(hM:M[n]?=some (.lst ds))(h:∀d∈ds,Ev.wV d)(hd:Ev.wV d):∃b,bp .gB (.d d) (.d (.aC n)) M=.ok b M/\(b=true->d∉ds):=by
 obtain⟨i,rfl,_,_⟩:=hd;obtain⟨qs,e,k,k2⟩:=Cu (M:=M) h;refine⟨!gm (.int i) qs,?_,λz=>k2 i (by simpa using z)⟩;unfold bp;have h1:jw M (.d (.int i))=some (.int i):=by show cL M 30 (.int i)=_;unfold cL;rfl
 have h2:bD M (.d (.aC n))=some (true,ds):=by unfold bD;simp only[hM]
 simp only[h1,h2,e,kL,k,lb,dE]
theorem y3{α:Type}{l:List α}{x:α}(h:l.Nodup)(k:x∉l):(l++[x]).Nodup:=by
 rw[C8];refine⟨h,j2.mpr ⟨λz=>(by cases z),xO⟩,λa ha b hb z=>?_⟩;rw[xE.mp hb]at z;rw[z]at ha;exact k ha
def lJ(F:Fn):Prop:=∀(M:ag)(w:Nat)(T:Int),WA M w T->T<2 ^ 39->aL (F [.aC w] M) λr M'=>∃n ds,r=.d (.aC n)/\M.length<=n/\M'[n]?=some (.lst ds)/\1<=ds.length/\ds.length<=7/\(∀d∈ds,Ev.wV d)/\ds.Nodup/\WA M' w (T+100)/\Fr w M M'
theorem FT{G:a9}{aR:Nat}(hD:dW (G aR)):lJ (aj G 5 (qF aR)):=by
 intro M w T hw hT;have ID:=hw.lt;rw[bz];show eF G (qF aR) [some (.aC w),none,none,none,none] M _ _ _ _;nofun;refine(hD _ w T 100 hw ∅ ∅ ∅).imp ?_;rintro r M1 ⟨i1,rfl,Lz,O0,Fy,f1⟩;nofun;refine⟨(show(1:Nat)<=sizeLine by decide),?_⟩;have l1:=f1.1;nofun;refine(hD _ w _ 3 Fy.app ∅ ∅ ∅).imp ?_;rintro r M2 ⟨i2,rfl,O1,Qr,kX,f2⟩;nofun;refine⟨(show(2:Nat)<=sizeLine by decide),?_⟩;have h2:M2[M1.length]?=some (.lst [.int i1]):=f2.get aP ∅;have l2:=bA h2;nofun;refine(hD _ w _ 16 kX.app ∅ ∅ ∅).imp ?_;rintro r M3 ⟨i3,rfl,Vt,Vu,m8,f3⟩;nofun;refine⟨⟨∅,∅⟩,?_⟩;have h3:M3[M1.length]?=some (.lst [.int i1]):=f3.get (cR h2) ∅;have TN:M3[M2.length]?=some (.lst [.int i2,.int 6]):=f3.get aP ∅;have Dy:Fr w M M3:=(f1.app.trans f2).app.trans f3
 obtain⟨d,hd,j,e,Qs,XC⟩:=nJ (P:=λd=>∃j:Int,d=.int j/\0<=j/\j<=6) (ds:=[.int i2,.int 6]) (i:=i3 / 15) (k:=2) (by
  intro d hd;simp only[cq,k_,j5]at hd;rcases hd with rfl | rfl
  ·exact⟨_,rfl,∅,∅⟩
  ·exact⟨_,rfl,∅,∅⟩) ∅ ∅ rfl
 subst e;nofun;rw[c_ TN (show(0:Int)<=i3 / 15 by omega) hd];nofun;refine⟨⟨∅,∅⟩,?_⟩
 have Uo:∀d∈[D.int i1],Ev.wV d:=by
  intro d h;have:d=.int i1:=by simpa using h
  subst this;exact⟨_,rfl,Lz,O0⟩
 refine jM (n:=j.toNat) (λi ρ M'=>∃ds o3 o4,ρ=[some (.aC w),some (.aC M1.length),some (.aC M2.length),o3,o4]/\M'[M1.length]?=some (.lst ds)/\1<=ds.length/\ds.length<=i+1/\(∀d∈ds,Ev.wV d)/\ds.Nodup/\WA M' w (T+3+2*i)/\Fr w M M') ⟨[.int i1],none,none,rfl,h3,ar _,ar _,Uo,j2.mpr ⟨λz=>(by cases z),xO⟩,m8.mono ∅,Dy⟩ ?_ ?_
 ·rintro i ρ M4 hi ⟨ds,o3,o4,rfl,h4,Q7,oG,nK,y4,iP,nL⟩;have XD:(i:Int)<6:=∅;have TQ:=bA h4;nofun;refine(hD _ w _ 100 iP ∅ ∅ ∅).imp ?_;rintro r M5 ⟨i5,rfl,LA,Km,jW,f5⟩;nofun;refine⟨(show(2:Nat)<=sizeLine by decide),?_⟩;nofun;refine(hD _ w _ 2 jW ∅ ∅ ∅).imp ?_;rintro r M6 ⟨i6,rfl,Kn,LB,yY,f6⟩
  obtain⟨d,hd,fO⟩:=nJ (P:=Ev.wV) (ds:=[.int i5,.int (0+i)]) (i:=i6) (k:=2) (by
   intro d hd;simp only[cq,k_,j5]at hd;rcases hd with rfl | rfl
   ·exact⟨_,rfl,∅,∅⟩
   ·exact⟨_,rfl,∅,∅⟩) Kn LB rfl
  nofun;rw[qB Kn hd];have h6:M6[M1.length]?=some (.lst ds):=f6.get (f5.get h4 ∅) ∅;nofun;obtain⟨b,hb,Y0⟩:=y2 h6 nK fO;rw[hb]
  cases b with
  | false=>exact⟨ds,_,_,rfl,h6,Q7,∅,nK,y4,yY.mono ∅,(nL.trans f5).trans f6⟩
  | true =>
   nofun;refine⟨ia h6,?_⟩;nofun;rw[h_ h6 (cy ∅)];refine⟨ds++[d],_,_,rfl,d_ h6,by simp,by simp;omega,?_,y3 y4 (Y0 rfl),(yY.set ∅).mono ∅,((nL.trans f5).trans f6).set ∅⟩;intro x hx;rcases gO.mp hx with q | q
   ·exact nK x q
   ·have:x=d:=by simpa using q
    subst this;exact fO
 ·rintro ρ M4 ⟨ds,o3,o4,rfl,h4,Q7,oG,nK,y4,iP,nL⟩;exact⟨_,ds,rfl,l1,h4,Q7,∅,nK,y4,iP.mono ∅,nL⟩
def kk:D->D×D
 | .tup (a::b::_)=>(a,b)
 | d=>(d,d)
theorem tH{α:Type}{l:List α}{i:Nat}{d:α}(h:l.Nodup)(e:l[i]?=some d):d∉l.take i:=λz=>by
 have e1:l=l.take i++d::l.drop (i+1):=by rw[<- dX e,List.take_append_drop]
 rw[e1,C8]at h;exact h.2.2 d z d dD rfl
theorem Pz:([D.str "own",.str "a",.str "b",.str "z"]:List D).Nodup:=by
 refine j2.mpr ⟨λz=>?_,j2.mpr ⟨λz=>?_,j2.mpr ⟨λz=>?_,j2.mpr ⟨λz=>(by cases z),xO⟩⟩⟩⟩<;>(simp only[cq,k_,j5,D.str.injEq]at z;revert z;decide +kernel)
def qR(F:Fn):Prop:=∀(P:Int->Prop)(M:ag)(w ns nw:Nat)(T:Int)(tJ cK:List D),WA M w T->T<2 ^ 39->M[ns]?=some (.lst tJ)->ns≠w->M[nw]?=some (.lst cK)->nw≠w->(∀d∈tJ,Ev.wV d)->tJ.Nodup->1<=tJ.length->tJ.length<=7->(∀d∈cK,∃r,d=.int r/\P r)->cK.length<=100 ->
 aL (F [.aC w,.aC ns,.aC nw] M) λr M'=>∃ds,r=.d (.tup ds)/\ds.length<=28/\(∀d∈ds,wW P d)/\(ds.map kk).Nodup/\WA M' w (T+1000)/\Fr w M M'
theorem K0{G:a9}{aR mU:Nat}(hD:dW (G aR))(hS:uU (G mU)):qR (aj G 11 (uS aR mU)):=by
 intro P M w ns nw T sm cK hw hT hs NB hn mZ fO JB VJ VL hP O3;have ID:=hw.lt;have XF:=bA hn;have hsl:=bA hs;rw[bz];show eF G (uS aR mU) [some (.aC w),some (.aC ns),some (.aC nw),none,none,none,none,none,none,none,none] M _ _ _ _;nofun;refine⟨(show(8:Nat)<=sizeLine by decide),?_⟩;nofun;refine⟨(show(0:Nat)<=sizeLine by decide),?_⟩;have Y1:((M++[MO.lst [.aK,.aK,.aK,.str "x",.str "yes",.str "abcdefgh",.str "own",.str "a"]])++[MO.lst []])[ns]?=some (.lst sm):=cR (cR hs)
 have Y2:∀d∈[D.aK,.aK,.aK,.str "x",.str "yes",.str "abcdefgh",.str "own",.str "a"],B5 d:=by
  intro d hd;simp only[cq,k_,j5]at hd;rcases hd with rfl | rfl | rfl | rfl | rfl | rfl | rfl | rfl
  ·exact .inl rfl
  ·exact .inl rfl
  ·exact .inl rfl
  ·exact .inr ⟨_,rfl,.inl rfl⟩
  ·exact .inr ⟨_,rfl,.inr (.inl rfl)⟩
  ·exact .inr ⟨_,rfl,.inr (.inr (.inl rfl))⟩
  ·exact .inr ⟨_,rfl,.inr (.inr (.inr (.inl rfl)))⟩
  ·exact .inr ⟨_,rfl,.inr (.inr (.inr (.inr rfl)))⟩
 have Y3:((M++[MO.lst [.aK,.aK,.aK,.str "x",.str "yes",.str "abcdefgh",.str "own",.str "a"]])++[MO.lst []])[M.length]?=some (.lst [.aK,.aK,.aK,.str "x",.str "yes",.str "abcdefgh",.str "own",.str "a"]):=cR aP
 have Y4:((M++[MO.lst [.aK,.aK,.aK,.str "x",.str "yes",.str "abcdefgh",.str "own",.str "a"]])++[MO.lst []])[M.length+1]?=some (.lst []):=by
  have:=aP (M:=M++[MO.lst [.aK,.aK,.aK,.str "x",.str "yes",.str "abcdefgh",.str "own",.str "a"]]) (o:=MO.lst []);simpa using this
 have bf:(M++[MO.lst [.aK,.aK,.aK,.str "x",.str "yes",.str "abcdefgh",.str "own",.str "a"]]).length=M.length+1:=by simp
 nofun;rw[bf];generalize Y5:([.aK,.aK,.aK,.str "x",.str "yes",.str "abcdefgh",.str "own",.str "a"]:List D)=WW at *;have Y6:WW.length=8:=by rw[<- Y5];rfl
 rw[Ki Y1]
 refine TM (n:=ns) (ds:=sm) (λi ρ M'=>∃ds o5 o6 o7 o8 o9 G5,ρ=[some (.aC w),some (.aC ns),some (.aC nw),some (.aC M.length),some (.aC (M.length+1)),o5,o6,o7,o8,o9,G5]/\M'[M.length]?=some (.lst WW)/\M'[M.length+1]?=some (.lst ds)/\ds.length<=4*i/\(∀d∈ds,wW P d)/\((ds.map kk).Nodup/\∀x∈ds,(kk x).1∈sm.take i)/\WA M' w (T+100*i)/\Fr w M M')
  (by rintro i ρ M' ⟨ds,_,_,_,_,_,_,_,_,_,_,_,_,_,f⟩;exact f.get hs NB) ⟨[],none,none,none,none,none,none,rfl,Y3,Y4,jk _,(by intro d h;cases h),⟨xO,by intro d h;cases h⟩,(hw.app.app).mono ∅,((Fr.refl w M).app).app⟩ ?_ ?_
 ·rintro i ρ M4 d hd ⟨ds,o5,o6,o7,o8,o9,G5,rfl,VM,h4,oG,nK,y4,iP,nL⟩;have hi:i<sm.length:=(d4.mp hd).1;have Y7:Ev.wV d:=fO d (dC hd);nofun;refine⟨(show(4:Nat)<=sizeLine by decide),?_⟩
  refine qE (ds:=[.str "own",.str "a",.str "b",.str "z"]) (λj ρ M'=>∃ds o6 o7 o8 o9 G5,ρ=[some (.aC w),some (.aC ns),some (.aC nw),some (.aC M.length),some (.aC (M.length+1)),some d,o6,o7,o8,o9,G5]/\M'[M.length]?=some (.lst WW)/\M'[M.length+1]?=some (.lst ds)/\ds.length<=4*i+j/\(∀d∈ds,wW P d)/\((ds.map kk).Nodup/\∀x∈ds,(kk x).1∈sm.take i\/((kk x).1=d/\(kk x).2∈([D.str "own",.str "a",.str "b",.str "z"]:List D).take j))/\WA M' w (T+100*i+25*j)/\Fr w M M')
   ⟨ds,o6,o7,o8,o9,G5,rfl,VM,h4,∅,nK,⟨y4.1,λx hx=>.inl (y4.2 x hx)⟩,iP.mono ∅,nL⟩ ?_ ?_
  ·rintro j ρ M5 c hc ⟨ds,o6,o7,o8,o9,G5,rfl,Q8,h5,Lh,Q9,G6,jW,Dz⟩;have hj:j<4:=(d4.mp hc).1
   have Y8:B6 c:=by
    have hm:=dC hc;simp only[cq,k_,j5]at hm;rcases hm with rfl | rfl | rfl | rfl
    ·exact⟨_,rfl,.inl rfl⟩
    ·exact⟨_,rfl,.inr (.inl rfl)⟩
    ·exact⟨_,rfl,.inr (.inr (.inl rfl))⟩
    ·exact⟨_,rfl,.inr (.inr (.inr rfl))⟩
   nofun;refine(hD _ w _ 4 jW ∅ ∅ ∅).imp ?_;rintro r6 M6 ⟨i6,rfl,Kn,LB,yY,f6⟩;nofun;by_cases hp:0<i6
   ·rw[bB hp];have VN:Fr w M M6:=Dz.trans f6;have Py:M6[ns]?=some (.lst sm):=VN.get hs NB;nofun;rw[dA Py];nofun;refine(hD _ w _ _ yY ∅ ∅ ∅).imp ?_;rintro r7 M7 ⟨i7,rfl,O2,TR,TU,f7⟩;have Nz:Fr w M M7:=VN.trans f7;obtain⟨a,ha,Y9⟩:=nJ (P:=Ev.wV) (ds:=sm) (i:=i7) (k:=sm.length) fO O2 TR rfl;nofun;rw[c_ (Nz.get hs NB) O2 ha];nofun;refine(hS P M7 w nw _ cK TU ∅ (Nz.get hn mZ) mZ hP O3).imp ?_;rintro r8 M8 ⟨sd,rfl,Up,O8,PB,f8⟩;have Y_:Fr w M M8:=Nz.trans f8;nofun;refine(hD _ w _ 8 PB ∅ ∅ ∅).imp ?_;rintro r9 M9 ⟨i9,rfl,VO,Za,Q_,f9⟩;have Zb:Fr w M M9:=Y_.trans f9;have VP:M9[M.length]?=some (.lst WW):=f9.get (f8.get (f7.get (f6.get Q8 ∅) ∅) ∅) ∅;have h9:M9[M.length+1]?=some (.lst ds):=f9.get (f8.get (f7.get (f6.get h5 ∅) ∅) ∅) ∅;obtain⟨wd,Uq,Ur⟩:=nJ (P:=B5) (ds:=WW) (i:=i9) (k:=8) Y2 VO Za Y6.symm;nofun;rw[c_ VP VO Uq];nofun;rw[dA h9];nofun;refine(hD _ w _ _ Q_ ∅ ∅ ∅).imp ?_;rintro rA MA ⟨iA,rfl,Zc,iA1,Zd,fA⟩;have Ze:Fr w M MA:=Zb.trans fA;have hA:MA[M.length+1]?=some (.lst ds):=fA.get h9 ∅;nofun;refine⟨ia hA,?_⟩;nofun;refine⟨(show(5:Nat)<=sizeLine by decide),?_⟩;nofun;rw[BW hA (cy ∅) Zc ∅];refine⟨ds.take iA.toNat++.tup [d,c,a,.tup sd,wd]::ds.drop iA.toNat,_,_,_,_,_,rfl,qA (fA.get VP ∅) ∅,d_ hA,?_,?_,?_,(Zd.set ∅).mono ∅,Ze.set ∅⟩
    ·rw[bY,fE,fD,kZ];omega
    ·intro x hx
     have hx:x=.tup [d,c,a,.tup sd,wd]\/x∈ds:=by
      rcases gO.mp hx with q | q
      ·exact .inr (xy q)
      ·rcases cq.mp q with q | q
       ·exact .inl q
       ·exact .inr (zl q)
     rcases hx with rfl | hx
     ·exact⟨_,_,_,_,_,rfl,Y7,Y8,Y9,Up,O8,Ur⟩
     ·exact Q9 x hx
    ·have lp:∀x∈ds,kk x≠(d,c):=λx hx z=>by
      rcases G6.2 x hx with q | ⟨_,q⟩
      ·rw[z]at q;exact tH JB hd q
      ·rw[z]at q;exact tH Pz hc q
     refine⟨?_,λx hx=>?_⟩
     ·have hp:(ds.take iA.toNat++D.tup [d,c,a,.tup sd,wd]::ds.drop iA.toNat).Perm (D.tup [d,c,a,.tup sd,wd]::ds):=by
       have:=List.perm_middle (a:=D.tup [d,c,a,.tup sd,wd]) (l₁:=ds.take iA.toNat) (l₂:=ds.drop iA.toNat);rw[List.take_append_drop]at this;exact this
      rw[(hp.map kk).nodup_iff,iC,j2];refine⟨λz=>?_,G6.1⟩;obtain⟨y,hy,ey⟩:=iS.mp z;exact lp y hy ey
     ·have hx:x=.tup [d,c,a,.tup sd,wd]\/x∈ds:=by
       rcases gO.mp hx with q | q
       ·exact .inr (xy q)
       ·rcases cq.mp q with q | q
        ·exact .inl q
        ·exact .inr (zl q)
      rcases hx with rfl | hx
      ·exact .inr ⟨rfl,by rw[cS hc];exact fP _ (xE.mpr rfl)⟩
      ·rcases G6.2 x hx with q | ⟨q1,q2⟩
       ·exact .inl q
       ·exact .inr ⟨q1,by rw[cS hc];exact oS _ q2⟩
   ·rw[bx hp];exact⟨ds,_,_,_,_,_,rfl,f6.get Q8 ∅,f6.get h5 ∅,∅,Q9,⟨G6.1,λx hx=>(G6.2 x hx).imp id λq=>⟨q.1,by rw[cS hc];exact oS _ q.2⟩⟩,yY.mono ∅,Dz.trans f6⟩
  ·rintro ρ M5 ⟨ds,o6,o7,o8,o9,G5,rfl,Q8,h5,Lh,Q9,G6,jW,Dz⟩;have e4:[D.str "own",D.str "a",D.str "b",D.str "z"].length=4:=rfl;rw[e4]at Lh jW;exact⟨ds,_,_,_,_,_,_,rfl,Q8,h5,∅,Q9,⟨G6.1,λx hx=>by rw[cS hd];rcases G6.2 x hx with q | q;exact oS _ q;exact fP _ (xE.mpr q.1)⟩,jW.mono ∅,Dz⟩
 ·rintro ρ M4 ⟨ds,o5,o6,o7,o8,o9,G5,rfl,VM,h4,oG,nK,y4,iP,nL⟩;nofun;rw[eV h4];exact⟨ds,rfl,∅,nK,y4.1,iP.mono ∅,nL⟩
def FU(x:D):Prop:=((iQ x).map kk).Nodup
def Cv(F:Fn):Prop:=∀(M:ag)(ns:List Int),ns.length<=63->aL (F [.ls (ns.map D.int)] M) λr M'=>∃d,r=.d d/\GP d/\(∀x∈T7 d,FU x)/\Fr M.length M M'
theorem vp{G:a9}{fC aR da eG:Nat}(hW:s_ (G fC))(hD:dW (G aR))(GY:lJ (G da))(KI:qR (G eG)){ns:List Int}(md:ns.length<=63){m:Int}{i:Nat}{bo bX:List D}{M4:ag}{n3:Nat}{o1 d2 o6 o7 o8:Option D}{nx:En->ag->Prop}{rt:W->ag->Prop}{bk ct:En->ag->Prop}(hi:i<4)(O6:bo.length<=8)(DV:∀x∈bo,oP m x)(h4:M4[n3]?=some (.lst bX))(oG:bX.length=i)(q:∀o1 o6 o7 o8 M9 x,B7 bo i x->FU x->Fr n3 M4 M9->M9[n3]?=some (.lst (bX++[x]))->nx [some (.ls (ns.map D.int)),o1,d2,some (.tup bo),some (.aC n3),some (.int i),o6,o7,o8] M9):eF G (GQ fC aR da eG) [some (.ls (ns.map D.int)),o1,d2,some (.tup bo),some (.aC n3),some (.int i),o6,o7,o8] M4 nx rt bk ct:=by
 have l4:=bA h4;nofun;refine(hW M4 ns (1+i) ∅ ∅ md).imp ?_;rintro r M5 ⟨rfl,Lh,jW,f5⟩;nofun;refine(GY M5 _ _ jW ∅).imp ?_;rintro r M6 ⟨n6,st,rfl,hn6,h6,VJ,VL,fO,JB,yY,f6⟩;have l6:=bA h6;show wE G wX [some (.ls (ns.map D.int)),some (.aC M4.length),d2,some (.tup bo),some (.aC n3),some (.int i),some (.aC n6),o7,o8] M6 _;refine Fz (m:=m) (i:=i) (by rfl) (by rfl) O6 DV λcK hl LC=>?_;nofun;have h7:(M6++[MO.lst cK])[n6]?=some (.lst st):=cR h6;rw[dA h7];nofun;refine(hD _ _ _ _ yY.app ∅ ∅ ∅).imp ?_;rintro r8 M8 ⟨i8,rfl,VQ,Zf,PB,f8⟩;have O5:n6≠M4.length:=∅;have h8:M8[n6]?=some (.lst st):=f8.get h7 O5;have Zg:M8[M6.length]?=some (.lst cK):=f8.get aP ∅;obtain⟨s0,Zh,Us⟩:=nJ (P:=Ev.wV) (ds:=st) (i:=i8) (k:=st.length) fO VQ Zf rfl;nofun;rw[c_ h8 VQ Zh];nofun;have Zi:M5[n3]?=some (.lst bX):=f5.get h4 ∅;have Zj:M6[n3]?=some (.lst bX):=f6.get Zi ∅;have VR:M8[n3]?=some (.lst bX):=f8.get (cR Zj) ∅;refine⟨ia VR,?_⟩;nofun;refine(KI (qG bo i) M8 M4.length n6 M6.length _ st cK PB ∅ h8 O5 Zg ∅ fO JB VJ VL LC ∅).imp ?_;rintro r9 M9 ⟨mv,rfl,zh,Ut,Uu,Q_,f9⟩;nofun;refine⟨(show(2:Nat)<=sizeLine by decide),?_⟩;have VS:M9[n3]?=some (.lst bX):=f9.get VR ∅;nofun;rw[h_ VS (cy ∅)];refine q _ _ _ _ _ (.tup [s0,.tup mv]) ⟨_,_,rfl,Us,zh,Ut⟩ Uu ?_ (d_ VS);have g5:Fr M4.length M4 M9:=(((f5.none f6 (ar _)).app).none f8 (ar _)).none f9 (ar _);refine⟨by rw[rf];exact g5.1,λn hn k=>?_⟩;rw[lL (dq k)];exact g5.2 n hn ∅
theorem PC{G:a9}{fC aR jf da eG:Nat}(hW:s_ (G fC))(hD:dW (G aR))(hR:uT (G jf))(GY:lJ (G da))(KI:qR (G eG)):Cv (aj G 9 (wU fC aR jf da eG)):=by
 intro M ns md;rw[bz];show eF G (wU fC aR jf da eG) [some (.ls (ns.map D.int)),none,none,none,none,none,none,none,none] M _ _ _ _;have hb:wU fC aR jf da eG=[.asg [1] (.call fC [(.eO 0),(.aN (.int 0))]),.asg [2] (.sub (.lst [(.aN (.int 2)),(.aN (.int 1)),(.aN (.int 3)),(.aN (.int 2)),(.aN (.int 4)),(.aN (.int 3))]) (.call aR [(.eO 1),(.aN (.int 6))])),.asg [3] (.call jf [(.eO 1),(.eO 2)]),.asg [4] (.lst []),.dS [5] .fb [(.eO 2)] (GQ fC aR da eG),.ret (.tup [(.bi .tuple1 [(.eO 4)]),(.eO 3)])]:=rfl;rw[hb];nofun;refine(hW M ns 0 ∅ ∅ md).imp ?_;rintro r M1 ⟨rfl,Q7,Fy,f1⟩;nofun;refine⟨(show(6:Nat)<=sizeLine by decide),?_⟩;nofun;refine(hD _ _ _ 6 Fy ∅ ∅ ∅).imp ?_;rintro r M2 ⟨i2,rfl,O1,Qr,kX,f2⟩
 obtain⟨d,hd,m,e,Vr,Vs⟩:=nJ (P:=λd=>∃j:Int,d=.int j/\1<=j/\j<=4) (ds:=[.int 2,.int 1,.int 3,.int 2,.int 4,.int 3]) (i:=i2) (k:=6) (by
  intro d hd;simp only[cq,k_,j5]at hd;rcases hd with rfl | rfl | rfl | rfl | rfl | rfl<;>exact⟨_,rfl,∅,∅⟩) O1 Qr rfl
 subst e;nofun;rw[qB O1 hd];nofun;refine(hR _ _ _ m kX ∅ Vr Vs).imp ?_;rintro r M3 ⟨bo,rfl,O6,DV,m8,f3⟩;nofun;refine⟨(show(0:Nat)<=sizeLine by decide),?_⟩;nofun;refine⟨⟨∅,∅⟩,?_⟩;have Dy:Fr M.length M M3:=(f1.trans f2).trans f3;have l3:=Dy.1
 refine jM (n:=m.toNat) (λi ρ M'=>∃bX o1 o5 o6 o7 o8,ρ=[some (.ls (ns.map D.int)),o1,some (.int m),some (.tup bo),some (.aC M3.length),o5,o6,o7,o8]/\M'[M3.length]?=some (.lst bX)/\bX.length=i/\(∀k x,bX[k]?=some x->B7 bo k x)/\(∀x∈bX,FU x)/\Fr M.length M M')
  ⟨[],_,none,none,none,none,rfl,aP,rfl,(by intro k x h;simp at h),(by intro x h;cases h),Dy.app⟩ ?_ ?_
 ·rintro i ρ M4 hi ⟨bX,o1,o5,o6,o7,o8,rfl,h4,oG,nK,y4,nL⟩;rw[show(0:Int)+(i:Int)=i by omega];refine vp hW hD GY KI md (m:=m) (i:=i) ∅ O6 DV h4 oG λp1 p6 p7 p8 M9 x hx Zk f9 h9=>?_;refine⟨bX++[x],_,_,_,_,_,rfl,h9,by simp[oG],?_,λy hy=>(gO.mp hy).elim (y4 y) λz=>(by rw[xE.mp z];exact Zk),nL.none f9 l3⟩;intro k y hk;by_cases DZ:k<bX.length
  ·rw[gL DZ]at hk;exact nK k y hk
  ·have Zl:k=bX.length:=by have:=(d4.mp hk).1;simp at this;omega
   subst Zl;simp at hk;subst hk;rw[oG];exact hx
 ·rintro ρ M4 ⟨bX,o1,o5,o6,o7,o8,rfl,h4,oG,nK,y4,nL⟩;nofun;rw[eV h4];nofun;refine⟨(show(2:Nat)<=sizeLine by decide),_,rfl,⟨bX,bo,rfl,∅,∅,O6,?_,nK⟩,y4,nL⟩;have:(bX.length:Int)=m:=∅;rw[this];exact DV
end br
end
section
namespace br
open L2 Ev
open PySem PySem.Spec PyProof.Rows
section
variable {M:ag} {B L c h:Nat}
theorem Tg.nq{i:Int}(t:Tg M B L c h (.int i)):At B (.int i):=t.num
theorem Tg.atS{s:Str}(t:Tg M B L c h (.str s)):At B (.str s):=by
 cases t with
 | «at» _ _ _ a _=>exact a
theorem ie{d:D}(a:At B d):Tg M B 31 300 h d:=.at _ _ _ a (ar _)
theorem gz{r s:D}(hr:At B r)(hc:At B s):Tg M B 31 605 1 (.tup [r,s]) :=
 .tup 600 _ _ _ (.cons _ 300 300 _ _ _ (ie hr) (.cons _ 300 0 _ _ _ (ie hc) (.nil _ _) ∅) ∅) ∅ (show 2<=31 by omega)
theorem iy{a b k:D}(ha:At B a)(hb:At B b)(hk:At B k):Tg M B 31 905 1 (.tup [a,b,k]) :=
 .tup 900 _ _ _ (.cons _ 300 600 _ _ _ (ie ha) (.cons _ 300 300 _ _ _ (ie hb) (.cons _ 300 0 _ _ _ (ie hk) (.nil _ _) ∅) ∅) ∅) ∅ (show 3<=31 by omega)
theorem mY{c e h n:Nat}{ds:List D}(p:∀d∈ds,Tg M B 31 c h d)(hl:ds.length<=n)(he:n*c+5<=e)(hn:n<=31):Tg M B 31 e (h+1) (.tup ds) :=
 .tup (n*c) _ _ _ ((Ts.all p).mono (Ex.refl _) (ar _) (ar _) (Hm _ hl) (ar _)) he ∅
theorem iz{s k a w:D}{sd:List D}(hs:At B s)(hc:At B k)(ha:At B a)(hw:At B w)(hl:sd.length<=6)(hd:∀d∈sd,Tg M B 31 605 1 d):Tg M B 31 5000 3 (.tup [s,k,a,.tup sd,w]):=by
 have h1:Tg M B 31 3635 2 (.tup sd):=mY hd hl ∅ ∅;exact .tup 4835 _ _ _ (.cons _ 300 4535 _ _ _ (ie hs) (.cons _ 300 4235 _ _ _ (ie hc) (.cons _ 300 3935 _ _ _ (ie ha) (.cons _ 3635 300 _ _ _ h1 (.cons _ 300 0 _ _ _ (ie hw) (.nil _ _) ∅) ∅) ∅) ∅) ∅) ∅ (show 5<=31 by omega)
theorem lK{s:D}{mv:List D}(hs:At B s)(hl:mv.length<=31)(hm:∀d∈mv,Tg M B 31 5000 3 d):Tg M B 31 156000 5 (.tup [s,.tup mv]):=by
 have h1:Tg M B 31 155005 4 (.tup mv):=mY hm hl ∅ ∅;exact .tup 155305 _ _ _ (.cons _ 300 155005 _ _ _ (ie hs) (.cons _ 155005 0 _ _ _ h1 (.nil _ _) ∅) ∅) ∅ (show 2<=31 by omega)
theorem jU{ru ro:List D}(h5:ru.length<=5)(h9:ro.length<=9)(hu:∀d∈ru,Tg M B 31 156000 5 d)(ho:∀d∈ro,Tg M B 31 905 1 d):Tg M B 31 800000 7 (.tup [.tup ru,.tup ro]):=by
 have h1:Tg M B 31 780005 6 (.tup ru):=mY hu h5 ∅ ∅;have h2:Tg M B 31 8150 2 (.tup ro):=mY ho h9 ∅ ∅;exact .tup 788155 _ _ _ (.cons _ 780005 8150 _ _ _ h1 (.cons _ 8150 0 _ _ _ (Tg.mono (Ex.refl _) (ar _) (ar _) h2 (ar _) ∅) (.nil _ _) ∅) ∅) ∅ (show 2<=31 by omega)
end
theorem xq{n:Int}:∀{ds:List D}{k:Nat},tT n k ds=none->∀d∈ds,tS n d=true
 | [],_,_=>λd h=>by cases h
 | x::ds,k,h=>by
  rw[ib]at h
  cases q:tS n x with
  | false=>rw[q]at h;cases h
  | true =>
   rw[q]at h;intro d hd;rcases cq.mp hd with z | z
   ·rw[z];exact q
   ·exact xq (show tT n (k+1) ds=none from h) d z
theorem tK{n:Int}:∀{ds:List D}{k:Nat},(∀d∈ds,tS n d=true)->tT n k ds=none
 | [],_,_=>rfl
 | x::ds,k,h=>by
  rw[ib,h x dD];exact tK λd hd=>h d (dB _ hd)
theorem tL{ns:List Int}{pre:List D}{d:D}{ds:List D}:ly ns pre (d::ds)=if (nM ns d && !FI pre d)=true then ly ns (pre++[d]) ds else some pre.length:=rfl
theorem xr{ns:List Int}:∀{ds pre:List D},ly ns pre ds=none->∀d∈ds,nM ns d=true
 | [],_,_=>λd h=>by cases h
 | x::ds,pre,h=>by
  rw[tL]at h
  cases q:nM ns x with
  | false=>rw[q]at h;cases h
  | true =>
   rw[q]at h;split at h
   ·intro d hd;rcases cq.mp hd with z | z
    ·rw[z];exact q
    ·exact xr h d z
   ·cases h
theorem K1{s:Int}{c:Str}{e:D}(h:Cj s c e=true):kk e=(.int s,.str c):=by
 cases e with
 | tup ds =>
  rcases ds with _|⟨a,_|⟨b,r⟩⟩
  ·cases h
  ·cases a<;>cases h
  ·cases a with
   | int s' =>
    cases b with
    | str c' =>
     have h:(s'==s&&c'==c)=true:=h;simp only[av,eB]at h;obtain⟨rfl,rfl⟩:=h;rfl
    | _=>cases h
   | _=>cases h
 | _=>cases h
theorem tM{ns:List Int}:∀{ds pre:List D},(∀d∈ds,nM ns d=true)->((pre++ds).map kk).Nodup->ly ns pre ds=none
 | [],_,_,_=>rfl
 | x::ds,pre,h,nd=>by
  have hx:=h x dD;obtain⟨s,c,a,sd,w,rfl,_⟩:=kO hx
  have hs:FI pre (.tup [.int s,.str c,.int a,.tup sd,w])=false:=by
   show pre.any (Cj s c)=false;rw[C5];intro e he z;have ek:=K1 z;rw[Di,C8]at nd;refine nd.2.2 (kk e) (Ho he) (kk (.tup [.int s,.str c,.int a,.tup sd,w])) (Ho dD) ?_;rw[ek];rfl
  rw[tL,hx,hs];exact tM (λd hd=>h d (dB _ hd)) (by rw[xF];exact nd)
theorem xt{ro:List D}:∀{rs:List D}{m:Nat}{k:Int},nN ro m k rs=none->∀r∈rs,y0 r=true/\∃ns,∀d∈iQ r,nM ns d=true
 | [],_,_,_=>λd h=>by cases h
 | x::rs,m,k,h=>by
  rw[ic]at h
  cases q:y0 x with
  | false=>rw[q]at h;cases h
  | true =>
   rw[q]at h
   cases q2:ly (dY ro m) [] (iQ x)with
   | some j=>rw[q2]at h;cases h
   | none =>
    rw[q2]at h;intro r hr;rcases cq.mp hr with z | z
    ·rw[z];exact⟨q,_,xr q2⟩
    ·exact xt (show nN ro (m+1) (k+(iQ x).length) rs=none from h) r z
theorem tN{ro:List D}:∀{rs:List D}{m:Nat}{k:Int},(∀i r,rs[i]?=some r->y0 r=true/\ly (dY ro ((m+i:Nat):Int)) [] (iQ r)=none)->nN ro m k rs=none
 | [],_,_,_=>rfl
 | x::rs,m,k,h=>by
  obtain⟨h1,h2⟩:=h 0 x rfl;rw[Nat.add_zero]at h2;rw[ic,h1,h2];refine tN (rs:=rs) (m:=m+1) λi r hr=>?_;have:=h (i+1) r (by simpa using hr);rw[show m+1+i=m+(i+1) by omega];exact this
def K2(M:ag)(B:Nat)(d:D):Prop:=∃s c a sd w,d=.tup [.int s,.str c,.int a,.tup sd,w]/\At B (.int s)/\At B (.str c)/\At B (.int a)/\At B w/\sd.length<=3/\∀e∈sd,Tg M B 31 605 1 e
def K3(M:ag)(B:Nat)(r:D):Prop:=∃s mv,r=.tup [.int s,.tup mv]/\At B (.int s)/\mv.length<=30/\∀d∈mv,K2 M B d
def LM(M:ag)(B:Nat)(x:D):Prop:=∃ru ro,x=.tup [.tup ru,.tup ro]/\1<=ru.length/\ru.length<=4/\ro.length<=8/\(∀d∈ro,Tg M B 31 905 1 d)/\∀r∈ru,K3 M B r
section
variable {M:ag} {B L c h:Nat}
theorem K2.tg{d:D}(q:K2 M B d):Tg M B 31 5000 3 d:=by
 obtain⟨s,k,a,sd,w,rfl,h1,h2,h3,h4,h5,h6⟩:=q;exact iz h1 h2 h3 h4 ∅ h6
theorem K3.tg{d:D}(q:K3 M B d):Tg M B 31 156000 5 d:=by
 obtain⟨s,mv,rfl,h1,h2,h3⟩:=q;exact lK h1 ∅ λd hd=>(h3 d hd).tg
theorem LM.tg{x:D}(q:LM M B x):Tg M B 31 800000 7 x:=by
 obtain⟨ru,ro,rfl,h1,h2,h3,h4,h5⟩:=q;exact jU ∅ ∅ (λd hd=>(h5 d hd).tg) h4
theorem PD{ns:List Int}{d:D}(t:Tg M B L c h d)(q:kY ns d=true):Tg M B 31 605 1 d:=by
 cases q2:jg 2 d with
 | false=>rw[u6 q2]at q;cases q
 | true =>
  obtain⟨a,b,rfl⟩:=qO q2;have q:(Q5 ns a&&gK b)=true:=q;simp only[av]at q;have ta:=t.dk (d:=a) (by simp);have tb:=t.dk (d:=b) (by simp)
  cases a with
  | int i =>
   cases b with
   | str s=>exact gz ta.nq tb.atS
   | _=>cases q.2
  | _=>cases q.1
theorem PF{ns:List Int}{d:D}(t:Tg M B L c h d)(q:nM ns d=true):K2 M B d:=by
 obtain⟨s,k,a,sd,w,rfl,hl⟩:=kO q;have q:(((eR 0 100 (.int s)&&eR 0 100 (.int a))&&(eJ "own" (.str k)||gK (.str k)))&&((kN 3 (.tup sd)&&qI (kY ns) (.tup sd))&&(fB w||gG 8 w)))=true:=q;simp only[av]at q;obtain⟨_,⟨_,q1⟩,q2⟩:=q;have q1:sd.all (kY ns)=true:=q1;have tw:=t.dk (d:=w) (by simp);have td:=t.dk (d:=.tup sd) (by simp);refine⟨s,k,a,sd,w,rfl,(t.dk (d:=.int s) (by simp)).nq,(t.dk (d:=.str k) (by simp)).atS,(t.dk (d:=.int a) (by simp)).nq,?_,hl,λe he=>PD (td.dk he) (gM.mp q1 e he)⟩
 cases w with
 | aK=>trivial
 | str s=>exact tw.atS
 | _=>cases q2
theorem PH{n:Int}{d:D}(t:Tg M B L c h d)(q:tS n d=true):Tg M B 31 905 1 d:=by
 obtain⟨a,b,k,rfl,_⟩:=vd q;have q:((eR 0 n (.int a)&&eR 0 n (.int b))&&(y_ (.int a) (.int b)&&(eJ "row" k||eJ "heap" k)))=true:=q;simp only[av]at q;have q1:=q.2.2;have tk:=t.dk (d:=k) (by simp);refine iy (t.dk (d:=.int a) (by simp)).nq (t.dk (d:=.int b) (by simp)).nq ?_
 cases k with
 | str s=>exact tk.atS
 | _=>cases q1
theorem K4{x:D}(t:Tg M B L c h x)(q:oR x=none):LM M B x:=by
 cases qf:xh x with
 | false=>rw[qQ qf]at q;cases q
 | true =>
  obtain⟨ru,ro,rfl,l1,l4,l8⟩:=vc qf;rw[jQ qf]at q
  cases q2:tT ru.length 0 ro with
  | some k=>rw[q2]at q;cases q
  | none =>
   rw[q2]at q;have q:nN ro 0 0 ru=none:=q;have tu:=t.dk (d:=.tup ru) (by simp);have to:=t.dk (d:=.tup ro) (by simp);refine⟨ru,ro,rfl,l1,l4,l8,λd hd=>PH (to.dk hd) (xq q2 d hd),λr hr=>?_⟩;obtain⟨h1,ns,h2⟩:=xt q r hr;obtain⟨s,mv,rfl,LJ,em⟩:=vf h1;rw[em]at h2;have tr:=tu.dk hr;exact⟨s,mv,rfl,(tr.dk (d:=.int s) (by simp)).nq,LJ,λd hd=>PF ((tr.dk (d:=.tup mv) (by simp)).dk hd) (h2 d hd)⟩
end
theorem G7{w:Option Str}(h:Kq w):(fB (GR w)||gG 8 (GR w))=true/\∀B,At B (GR w):=by
 cases w with
 | none=>exact⟨rfl,λB=>trivial⟩
 | some x =>
  rcases h x rfl with rfl | rfl | rfl | rfl | rfl<;>exact⟨⋯,λB=>.inl ⋯⟩
theorem G8{c:Str} (h:c = "own" \/ c = "a" \/ c = "b" \/ c = "z"):(eJ "own" (.str c)||gK (.str c))=true/\∀B,At B (.str c):=by
 rcases h with rfl | rfl | rfl | rfl<;>exact⟨⋯,λB=>.inl ⋯⟩
theorem G9{c:Str}(h:B9 c):gK (.str c)=true/\∀B,At B (.str c):=by
 rcases h with rfl | rfl | rfl | rfl<;>exact⟨⋯,λB=>.inl ⋯⟩
theorem Cy{i:Int}(h:0<=i/\i<100):eR 0 100 (.int i)=true:=by
 show(decide (0<=i)&&decide (i<100))=true;rw[bB h.1,bB h.2];rfl
theorem PJ{ro:List (Int×Int×Str)}{m:Nat}{y:Mv}(h:FA ro m y):nM (dY (ro.map uV) m) (LD y)=true:=by
 have h1:(y.sd.map pD).all (kY (dY (ro.map uV) m))=true:=by
  rw[gM];intro d hd;obtain⟨p,hp,rfl⟩:=iS.mp hd;obtain⟨q1,q2,r,q3,q4⟩:=h.sd p hp;show(decide (p.1∈dY (ro.map uV) m)&&gK (.str p.2))=true;rw[(G9 q1).1,xS];refine bB (xl.mpr ⟨q2,?_,?_⟩)
  ·have:=(d4.mp q3).1;rw[cM];omega
  ·rw[tU,ji,q3];exact q4
 show(((eR 0 100 (.int y.s)&&eR 0 100 (.int y.a))&&(eJ "own" (.str y.c)||gK (.str y.c)))&&((decide (((y.sd.map pD).length:Int)<=3)&&(y.sd.map pD).all (kY (dY (ro.map uV) m)))&&(fB (GR y.w)||gG 8 (GR y.w))))=true;rw[Cy h.s,Cy h.a,(G8 h.c).1,(G7 h.w).1,h1,bB (show((y.sd.map pD).length:Int)<=3 by rw[cM];have:=h.l;omega)];rfl
theorem PK{n:Nat}{r:Int×Int×Str}(h:Kr n r):tS n (uV r)=true:=by
 show((eR 0 n (.int r.1)&&eR 0 n (.int r.2.1))&&((!(r.1==r.2.1))&&(eJ "row" (.str r.2.2)||eJ "heap" (.str r.2.2))))=true
 have e1:eR 0 n (.int r.1)=true:=by
  show(decide (0<=r.1)&&decide (r.1<(n:Int)))=true;rw[bB h.a.1,bB h.a.2];rfl
 have e2:eR 0 n (.int r.2.1)=true:=by
  show(decide (0<=r.2.1)&&decide (r.2.1<(n:Int)))=true;rw[bB h.b.1,bB h.b.2];rfl
 have e3:(r.1==r.2.1)=false:=iR.mpr h.ab
 have e4:(eJ "row" (.str r.2.2)||eJ "heap" (.str r.2.2))=true:=by
  rcases h.k with e | e<;>rw[e]<;>decide +kernel
 rw[e1,e2,e3,e4];rfl
theorem K5{f:Fm}(h:Ks f)(nd:∀x∈f.ru.map zf,FU x):oR (tf f)=none:=by
 have l1:=h.l1;have l4:=h.l4;have l8:=h.l8
 have q:xh (tf f)=true:=by
  show(decide (((f.ru.map zf).length:Int)<=4)&&(!(((f.ru.map zf).length:Int)==0))&&decide (((f.ro.map uV).length:Int)<=8))=true;rw[cM,cM,bB (show(f.ru.length:Int)<=4 by omega),bB (show(f.ro.length:Int)<=8 by omega),show((f.ru.length:Int)==0)=false by rw[iR];omega];rfl
 have e1:tT (f.ru.map zf).length 0 (f.ro.map uV)=none:=by
  refine tK λd hd=>?_;obtain⟨r,hr,rfl⟩:=iS.mp hd;rw[cM];exact PK (h.ro r hr)
 have e2:nN (f.ro.map uV) 0 0 (f.ru.map zf)=none:=by
  refine tN λi r hr=>?_;have hn:=nd r (dC hr);rw[ji]at hr;obtain⟨x,hx,rfl⟩:=CT.mp hr;obtain⟨h1,h2,h3⟩:=h.ru i x hx;refine⟨?_,?_⟩
  ·show(eR 0 100 (.int x.1)&&decide (((x.2.map LD).length:Int)<=30))=true;rw[Cy h1,bB (show((x.2.map LD).length:Int)<=30 by rw[cM];omega)];rfl
  ·refine tM (λd hd=>?_) hn;have hd:d∈x.2.map LD:=hd;obtain⟨y,hy,rfl⟩:=iS.mp hd;rw[Nat.zero_add];exact PJ (h3 y hy)
 have:=jQ q;rw[e1]at this;exact this.trans e2
theorem PL{f:Fm}{M:ag}{B:Nat}(h:Ks f)(hB:100<=B):LM M B (tf f):=by
 have l1:=h.l1;have l4:=h.l4;have l8:=h.l8;refine⟨f.ru.map zf,f.ro.map uV,rfl,by rw[cM];exact l1,by rw[cM];exact l4,by rw[cM];exact l8,λd hd=>?_,λr hr=>?_⟩
 ·obtain⟨r,hr,rfl⟩:=iS.mp hd;have k:=h.ro r hr;have:=k.a;have:=k.b;refine iy (show r.1.natAbs<=B by omega) (show r.2.1.natAbs<=B by omega) (.inl ?_);rcases k.k with e | e<;>rw[e]<;>decide +kernel
 ·obtain⟨x,hx,rfl⟩:=iS.mp hr;obtain⟨i,hi,rfl⟩:=CY.mp hx;obtain⟨h1,h2,h3⟩:=h.ru i _ (eK hi);refine⟨_,_,rfl,show(f.ru[i].1).natAbs<=B by omega,by rw[cM];omega,λd hd=>?_⟩;obtain⟨y,hy,rfl⟩:=iS.mp hd;have k:=h3 y hy;have:=k.s;have:=k.a;refine⟨y.s,y.c,y.a,y.sd.map pD,GR y.w,rfl,show y.s.natAbs<=B by omega,(G8 k.c).2 B,show y.a.natAbs<=B by omega,(G7 k.w).2 B,by rw[cM];exact k.l,λe he=>?_⟩;obtain⟨p,hp,rfl⟩:=iS.mp he;obtain⟨q1,q2,r,q3,q4⟩:=k.sd p hp;have:=(d4.mp q3).1;exact gz (show p.1.natAbs<=B by omega) ((G9 q1).2 B)
end br
end
section
namespace br
open L2 Ev
open PySem PySem.Spec PyProof.Rows
section
variable {M M':ag} {B:Nat}
theorem K2.ls{d:D}(f:Ls M M')(q:K2 M B d):K2 M' B d:=by
 obtain⟨s,k,a,sd,w,rfl,h1,h2,h3,h4,h5,h6⟩:=q;exact⟨s,k,a,sd,w,rfl,h1,h2,h3,h4,h5,λe he=>(h6 e he).ls f⟩
theorem K3.ls{d:D}(f:Ls M M')(q:K3 M B d):K3 M' B d:=by
 obtain⟨s,mv,rfl,h1,h2,h3⟩:=q;exact⟨s,mv,rfl,h1,h2,λd hd=>(h3 d hd).ls f⟩
theorem FV{ds:List D}{lo hi:Option Int}{d:D}(h:d∈Ev.cutD ds lo hi):d∈ds:=by
 unfold Ev.cutD at h;exact zl (xy h)
theorem d0{α:Type}{n:Nat}{l:List α}:(List.replicate n l).flatten.length=n*l.length:=by
 rw[Hq];simp
theorem Cz{ru ro mv:List D}{m:Nat}{s:D}(h4:ru.length<=4)(h8:ro.length<=8)(hm:m<ru.length)(hu:∀r∈ru,K3 M B r)(ho:∀d∈ro,Tg M B 31 905 1 d)(hs:At B s)(hl:mv.length<=31)(zh:∀d∈mv,Tg M B 31 5000 3 d):Tg M B 31 800000 7 (.tup [.tup (ru.take m++[.tup [s,.tup mv]]++ru.drop (m+1)),.tup ro]):=by
 refine jU (by rw[bY,bY,fD,kZ];show _+1+_<=5;omega) ∅ ?_ ho;refine cg (cg (λd hd=>(hu d (xy hd)).tg) (all_cons (lK hs hl zh) bM)) λd hd=>(hu d (zl hd)).tg
theorem FW{c h:Nat}{mv:List D}(t:Tg M B 31 c h (.tup mv))(hB:B<10 ^ 20)(hh:h<=30):bp .ne (.d (.tup mv)) (.d (.tup [])) M=.ok (!mv.isEmpty) M:=by
 obtain⟨p,e,q1,q2,q3,q4,q5⟩:=w_ hB t;have e:cL M 30 (.tup mv)=some p:=e M 30 (Ex.refl M) hh
 have sh:SeqAt.shaped p=true:=by
  unfold SeqAt.shaped;rw[q1,bB (show p.depth<=64 by omega)];rfl
 have e2:jw M (.d (.tup []))=some (.tuple []):=by
  show cL M 30 (.tup [])=_;unfold cL bj;rfl
 have Zm:SeqAt.shaped (.tuple [])=true:=⋯;have e1:jw M (.d (.tup mv))=some p:=e
 have ev:PyData.eqv p (.tuple [])=mv.isEmpty:=by
  unfold cL at e
  cases mv with
  | nil =>
   unfold bj at e;cases e;decide +kernel
  | cons x l =>
   cases hq:bj M 29 (x::l)with
   | none=>rw[hq]at e;cases e
   | some ps =>
    rw[hq]at e;cases e;unfold bj at hq;split at hq
    ·cases hq;rw[PyData.eqv.eq_8,PyData.eqvAll.eq_4];rfl
    ·cases hq
 unfold bp;simp only[e1,e2,sh,Zm,lb,dE,ev]
end
def CA(F:Fn):Prop:=∀(M:ag)(w:Nat)(T:Int)(B:Nat)(x:D),WA M w T->T<2 ^ 38->LM M B x->100<=B->B<10 ^ 20->aL (F [.aC w,x] M) λr M'=>∃d,r=.d d/\Tg M' B 31 800000 7 d/\WA M' w (T+7)/\Fr w M M'
theorem PM{G:a9}(hD:dW (G 16)):CA (aj G 13 QV):=by
 intro M w T B x hw hT q hB Px;obtain⟨ru,ro,rfl,l1,l4,l8,zg,GS⟩:=q;have nn:∀i:Int,i.natAbs<=100->At B (.int i):=λi h=>bJ h hB;have ss:∀s:Str,s∈uY->At B (.str s):=λs h=>.inl h;rw[bz];show eF G QV [some (.aC w),some (.tup [.tup ru,.tup ro]),none,none,none,none,none,none,none,none,none,none,none] M _ _ _ _;nofun;refine(hD M w T ru.length hw ∅ ∅ ∅).imp ?_;rintro r M1 ⟨i1,rfl,Lz,O0,Fy,f1⟩;obtain⟨m,rfl⟩:∃n:Nat,i1=(n:Int):=⟨i1.toNat,∅⟩;have hm:m<ru.length:=∅;have eg:ru[m]?=some ru[m]:=eK hm;obtain⟨s,mv,er,hs,LJ,zh⟩:=GS _ (tY hm);rw[er]at eg;clear er;nofun;rw[fM eg];nofun;refine(hD M1 w (T+1) 5 Fy ∅ ∅ ∅).imp ?_;rintro r M2 ⟨i2,rfl,O1,Qr,kX,f2⟩;have Kv:=f1.trans f2;have G_:=Ls.fr Kv hw;have Uv:i2=0\/i2=1\/i2=2\/(i2=3\/i2=4):=∅;rcases Uv with rfl | rfl | rfl | Zn
 ·nofun;have c1:=xo (ds:=ru)
  have hk:(Ev.cutD ru none (some 1)).length*((5:Int)-ru.length).toNat<=5-ru.length:=by
   rw[show((5:Int)-ru.length).toNat=5-ru.length by omega];exact bJ (Hm _ c1) ∅
  refine⟨⟨∅,∅,af ∅⟩,?_⟩;nofun
  have Lh:ru.length+(List.replicate ((5:Int)-ru.length).toNat (Ev.cutD ru none (some 1))).flatten.length<=5:=by
   rw[d0,Nat.mul_comm];omega
  refine⟨af ∅,?_⟩;nofun;refine⟨af (aW rfl),_,rfl,?_,kX.mono ∅,Kv⟩;refine jU (by rw[bY];exact Lh) ∅ (cg (λd hd=>(GS d hd).tg.ls G_) (eS λd hd=>(GS d (FV hd)).tg.ls G_)) λd hd=>(zg d hd).ls G_
 ·nofun;refine⟨af (aW rfl),?_⟩;nofun;refine⟨af (aW rfl),?_⟩;nofun;refine⟨⟨∅,∅,af (by show 1*_<=1000;omega)⟩,?_⟩;nofun
  have Zo:ro.length+(List.replicate ((9:Int)-ro.length).toNat [D.tup [.int 0,.int 1,.str "row"]]).flatten.length<=9:=by
   rw[d0];show _+_*1<=9;omega
  refine⟨af ∅,?_⟩;nofun;refine⟨af (aW rfl),_,rfl,?_,kX.mono ∅,Kv⟩;refine jU ∅ (by rw[bY];exact Zo) (λd hd=>(GS d hd).tg.ls G_) (cg (λd hd=>(zg d hd).ls G_) (eS (all_cons (iy (nn 0 (by decide)) (nn 1 (by decide)) (ss "row" (⋯))) bM)))
 ·nofun;refine⟨⟨∅,∅⟩,?_⟩;refine wQ (n:=((31:Int)-mv.length).toNat) (λi M' aI=>M2=M'/\aI=(List.range i).map λ(k:Nat)=>D.tup [.int (0+(k:Int)),.str "y",.int 0,.tup [],.aK]) (by decide) ⟨rfl,rfl⟩ ?_ ?_
  ·rintro i M' aI hi ⟨rfl,rfl⟩;refine⟨cy (by rw[cM,zt];omega),?_⟩;nofun;refine⟨af (aW rfl),?_⟩;nofun;refine⟨af (aW rfl),?_⟩;nofun;refine⟨rfl,?_⟩;rw[List.range_succ,Di];rfl
  ·rintro M' aI ⟨rfl,rfl⟩
   have wY:∀d∈(List.range ((31:Int)-mv.length).toNat).map λ(k:Nat)=>D.tup [.int (0+(k:Int)),.str "y",.int 0,.tup [],.aK],Tg M2 B 31 5000 3 d:=λd hd=>by
    obtain⟨k,hk,rfl⟩:=iS.mp hd;have:=tZ.mp hk;exact iz (nn _ ∅) (ss "y" (⋯)) (nn 0 (by decide)) trivial (jk _) bM
   have Uh:((List.range ((31:Int)-mv.length).toNat).map λ(k:Nat)=>D.tup [.int (0+(k:Int)),.str "y",.int 0,.tup [],.aK]).length=31-mv.length:=by
    rw[cM,zt];omega
   generalize (List.range ((31:Int)-mv.length).toNat).map (λ(k:Nat)=>D.tup [.int (0+(k:Int)),.str "y",.int 0,.tup [],.aK])=nw at wY Uh;nofun;rw[mX ∅];refine⟨af ∅,?_⟩;nofun;refine⟨af (aW rfl),?_⟩;nofun;refine⟨af (aW rfl),?_⟩;nofun;refine⟨af (by rw[fD];show _+1<=1000;omega),?_⟩;nofun;rw[show((m:Int)+1)=((m+1:Nat):Int) by omega,jT ∅];refine⟨af (by rw[bY,fD,kZ];show _+1+_<=1000;omega),?_⟩;nofun;refine⟨af (aW rfl),_,rfl,?_,kX.mono ∅,Kv⟩;exact Cz l4 l8 hm (λr hr=>(GS r hr).ls G_) (λd hd=>(zg d hd).ls G_) hs (by rw[bY];omega) (cg (λd hd=>(zh d hd).tg.ls G_) wY)
 ·have h0:(i2==(0:Int))=false:=by rw[iR];omega
  have h1:(i2==(1:Int))=false:=by rw[iR];omega
  have h2:(i2==(2:Int))=false:=by rw[iR];omega
  nofun;rw[h0];nofun;rw[h1];nofun;rw[h2];nofun;refine(hD M2 w (T+2) ((mv.length:Int)+1) (kX.mono ∅) ∅ ∅ ∅).imp ?_;rintro r M3 ⟨i3,rfl,Vt,Vu,m8,f3⟩;obtain⟨at',rfl⟩:∃n:Nat,i3=(n:Int):=⟨i3.toNat,∅⟩;have VT:at'<=mv.length:=∅;have FF:=Kv.trans f3;nofun;refine⟨af (aW rfl),?_⟩;nofun;refine⟨af (aW rfl),?_⟩;nofun;refine⟨af (aW rfl),?_⟩
  have eY:∀(VU VW:Option D)(M4:ag)(d:D),WA M4 w (T+6)->Fr w M M4->(∀M',Ls M M'->Tg M' B 31 5000 3 d)->eF G [.ret (.tup [(.bin .add (.bin .add (.gH (.eO 2) none (some (.eO 4))) (.tup [(.tup [(.eO 5),(.bin .add (.bin .add (.gH (.eO 6) none (some (.eO 9))) (.tup [(.eO 10)])) (.gH (.eO 6) (some (.eO 9)) none))])])) (.gH (.eO 2) (some (.bin .add (.eO 4) (.aN (.int 1)))) none)),(.eO 3)])] [some (.aC w),some (.tup [.tup ru,.tup ro]),some (.tup ru),some (.tup ro),some (.int m),some (.int s),some (.tup mv),some (.int i2),none,some (.int at'),some d,VU,VW] M4 (λ_ M'=>∃d,W.d D.aK=.d d/\Tg M' B 31 800000 7 d/\WA M' w (T+7)/\Fr w M M') (λr M'=>∃d,r=.d d/\Tg M' B 31 800000 7 d/\WA M' w (T+7)/\Fr w M M') (λ_ _=>False) (λ_ _=>False):=by
   intro VU VW M4 d iP f4 td;have PN:=Ls.fr f4 hw;nofun;rw[mX (ds:=ru) ∅];rw[mX (ds:=mv) VT];refine⟨af (aW rfl),?_⟩;nofun;refine⟨af (by rw[fD];show _+1<=1000;omega),?_⟩;nofun;rw[jT (ds:=mv) VT];refine⟨af (by rw[bY,fD,kZ];show _+1+_<=1000;omega),?_⟩;nofun;refine⟨af (aW rfl),?_⟩;nofun;refine⟨af (aW rfl),?_⟩;nofun;refine⟨af (by rw[fD];show _+1<=1000;omega),?_⟩;nofun;rw[show((m:Int)+1)=((m+1:Nat):Int) by omega,jT ∅];refine⟨af (by rw[bY,fD,kZ];show _+1+_<=1000;omega),?_⟩;nofun;refine⟨af (aW rfl),_,rfl,?_,iP.mono ∅,f4⟩;refine Cz l4 l8 hm (λr hr=>(GS r hr).ls PN) (λd hd=>(zg d hd).ls PN) hs (by rw[bY,bY,fD,kZ];show _+1+_<=31;omega) (cg (cg (λd hd=>(zh d (xy hd)).tg.ls PN) (all_cons (td M4 PN) bM)) λd hd=>(zh d (zl hd)).tg.ls PN)
  have Zp:∀M',Ls M M'->Tg M' B 31 155005 4 (.tup mv):=λM' l=>mY (λd hd=>(zh d hd).tg.ls l) (show mv.length<=31 by omega) ∅ ∅;have own:∀M',Ls M M'->Tg M' B 31 5000 3 (.tup [.int s,.str "own",.int s,.tup [],.aK]):=λM' _=>iz hs (ss "own" (⋯)) hs trivial (jk _) bM;have Uw:=Ls.fr FF hw;have LN:∀M',Ls M M'->bp .ne (.d (.tup mv)) (.d (.tup [])) M'=.ok (!mv.isEmpty) M':=λM' l=>FW (Zp M' l) Px ∅;nofun;rw[LN M3 Uw]
  cases qe:mv.isEmpty with
  | true =>
   rw[qe]at LN;nofun;refine⟨af (aW rfl),?_⟩;nofun;rw[LN M3 Uw];exact eY none none M3 _ (m8.mono ∅) FF own
  | false =>
   rw[qe]at LN
   have IP:0<mv.length:=by
    cases mv with
    | nil=>cases qe
    | cons _ _=>rw[fE];omega
   rcases Zn with rfl | rfl
   ·nofun;refine(hD M3 w (T+3) mv.length (m8.mono ∅) ∅ ∅ ∅).imp ?_;rintro r M4 ⟨i4,rfl,VX,VY,iP,f4⟩;obtain⟨j,rfl⟩:∃n:Nat,i4=(n:Int):=⟨i4.toNat,∅⟩;have hj:j<mv.length:=∅;have ej:mv[j]?=some mv[j]:=eK hj;obtain⟨s1,k1,a1,sd,w1,e1,g1,g2,g3,g4,g5,g6⟩:=zh _ (tY hj);rw[e1]at ej;have LF:=FF.trans f4;nofun;rw[fM ej];nofun;refine⟨af (aW rfl),?_⟩;nofun;refine⟨af (aW rfl),?_⟩;nofun;refine⟨af (aW rfl),?_⟩;nofun;refine⟨af (aW rfl),?_⟩;nofun;rw[LN M4 (Ls.fr LF hw)];exact eY none none M4 (.tup [.int s1,.str k1,.int s,.tup [],.str "x"]) (iP.mono ∅) LF λM' _=>iz g1 g2 hs (ss "x" (⋯)) (jk _) bM
   ·nofun;refine⟨af (aW rfl),?_⟩;nofun;rw[LN M3 Uw];nofun;refine(hD M3 w (T+3) mv.length (m8.mono ∅) ∅ ∅ ∅).imp ?_;rintro r M4 ⟨i4,rfl,VX,VY,iP,f4⟩;obtain⟨j,rfl⟩:∃n:Nat,i4=(n:Int):=⟨i4.toNat,∅⟩;have hj:j<mv.length:=∅;have ej:mv[j]?=some mv[j]:=eK hj;obtain⟨s1,k1,a1,sd,w1,e1,g1,g2,g3,g4,g5,g6⟩:=zh _ (tY hj);rw[e1]at ej;have LF:=FF.trans f4;nofun;rw[fM ej];nofun;refine(hD M4 w (T+4) _ (iP.mono ∅) ∅ (by split<;>omega) (by split<;>omega)).imp ?_;rintro r M5 ⟨i5,rfl,LA,Km,jW,f5⟩;have Km:i5<9:=by split at Km<;>omega
    have T1:=LF.trans f5;nofun;refine⟨af (aW rfl),?_⟩;nofun;refine⟨af (aW rfl),?_⟩;nofun;refine⟨af (aW rfl),?_⟩;nofun;refine⟨af (aW rfl),?_⟩;nofun;refine⟨af (aW rfl),?_⟩;nofun;refine(hD M5 w (T+5) 2 (jW.mono ∅) ∅ ∅ ∅).imp ?_;rintro r M6 ⟨i6,rfl,Kn,LB,yY,f6⟩;have T3:=T1.trans f6;nofun;refine⟨.inl ⟨by decide,by decide⟩,?_⟩;nofun
    have hr3:(List.replicate (1+2*i6).toNat [D.tup [.int i5,.str "a"]]).flatten.length<=3:=by
     rw[d0];show _*1<=3;omega
    refine⟨⟨∅,∅,af (by show 1*_<=1000;omega)⟩,?_⟩;nofun;refine⟨af ∅,?_⟩;nofun;refine⟨af (aW rfl),?_⟩;nofun;refine⟨af (aW rfl),?_⟩;nofun;refine⟨af (aW rfl),?_⟩;exact eY _ _ M6 (.tup [.int s1,.str "y",.int a1,.tup (sd++(List.replicate (1+2*i6).toNat [D.tup [.int i5,.str "a"]]).flatten),w1]) (yY.mono ∅) T3 λM' l=>iz g1 (ss "y" (⋯)) g3 g4 (by rw[bY];omega) (cg (λe he=>(g6 e he).ls l) (eS (all_cons (gz (nn i5 ∅) (ss "a" (⋯))) bM)))
end br
end
section
namespace br
open L2 Ev
open PySem PySem.Spec PyProof.Rows
noncomputable def CB(b:Bool):List D:=[.tup [.int 0,.str "a"],.tup [.int 2,.str "b"],.tup [.int 0,.str "z"]]++(List.replicate (if b=true then (1:Int) else 0).toNat [D.tup [.int 0,.str "a"]]).flatten
def CD(b1 b3:Bool):List D:=(List.range (30+(if b1=true then (1:Int) else 0)).toNat).map λ(k:Nat)=>.tup [.int (0+(k:Int)),.str "own",.int 99,.tup (CB b3),.str "abcdefgh"]
def Ra(b1 b2 b3 b4:Bool):D:=.tup [.tup ([.tup [.int 99,.tup (CD b1 b3)]]++(List.replicate (3+(if b4=true then (1:Int) else 0)).toNat [D.tup [.int 0,.tup []]]).flatten),.tup ((List.replicate (Int.toNat 4) [D.tup [.int 0,.int 1,.str "row"],.tup [.int 1,.int 0,.str "heap"]]).flatten++(List.replicate (if b2=true then (1:Int) else 0).toNat [D.tup [.int 0,.int 1,.str "heap"]]).flatten)]
theorem FX:oR (Ra false false false false)=none:=⋯
theorem CF{M:ag}{B:Nat}{b1 b2 b3 b4:Bool}(hB:100<=B):Tg M B 31 800000 7 (Ra b1 b2 b3 b4):=by
 have nn:∀i:Int,i.natAbs<=100->At B (.int i):=λi h=>bJ h hB;have ss:∀s:Str,s∈uY->At B (.str s):=λs h=>.inl h;have O8:(CB b3).length<=6:=by cases b3<;>decide
 have Zq:∀d∈CB b3,Tg M B 31 605 1 d:=cg (all_cons (gz (nn 0 (by decide)) (ss "a" (⋯))) (all_cons (gz (nn 2 (by decide)) (ss "b" (⋯))) (all_cons (gz (nn 0 (by decide)) (ss "z" (⋯))) bM))) (eS (all_cons (gz (nn 0 (by decide)) (ss "a" (⋯))) bM));have hn:(30+(if b1=true then (1:Int) else 0)).toNat<=31:=by cases b1<;>decide
 have Zr:(CD b1 b3).length<=31:=by unfold CD;rw[cM,zt];exact hn
 have Zs:∀d∈CD b1 b3,Tg M B 31 5000 3 d:=λd hd=>by
  unfold CD at hd;obtain⟨k,hk,rfl⟩:=iS.mp hd;have:=tZ.mp hk;exact iz (nn _ ∅) (ss "own" (⋯)) (nn 99 (by decide)) (ss "abcdefgh" (⋯)) O8 Zq
 refine jU ?_ ?_ (cg (all_cons (lK (nn 99 (by decide)) Zr Zs) bM) (eS (all_cons (lK (nn 0 (by decide)) (jk _) bM) bM))) (cg (eS (all_cons (iy (nn 0 (by decide)) (nn 1 (by decide)) (ss "row" (⋯))) (all_cons (iy (nn 1 (by decide)) (nn 0 (by decide)) (ss "heap" (⋯))) bM))) (eS (all_cons (iy (nn 0 (by decide)) (nn 1 (by decide)) (ss "heap" (⋯))) bM)))
 ·rw[bY,d0];show 1+_*1<=5;cases b4<;>decide
 ·rw[bY,d0,d0];show 4*2+_*1<=9;cases b2<;>decide
def qS(F:Fn):Prop:=∀(M:ag)(k:Int),aL (F [.int k] M) λr M'=>r=.d (Ra (k==1) (k==2) (k==3) (k==4))/\Ex M M'
theorem Rb{b:Bool}:(0:Int)<=(if b=true then (1:Int) else 0)/\(if b=true then (1:Int) else 0)<=1:=by cases b<;>decide
theorem FY{G:a9}:qS (aj G 5 Q2):=by
 intro M k;rw[bz];show eF G Q2 [some (.int k),none,none,none,none] M _ _ _ _;have z1:=Rb (b:=(k==1));have z2:=Rb (b:=(k==2));have z3:=Rb (b:=(k==3));have z4:=Rb (b:=(k==4));nofun;refine⟨af (aW rfl),?_⟩;nofun;refine⟨af (aW rfl),?_⟩;nofun;refine⟨af (aW rfl),?_⟩;nofun;refine⟨⟨by decide,by decide,af (aW rfl)⟩,?_⟩;nofun;refine⟨af (aW rfl),?_⟩;nofun;refine⟨af (aW rfl),?_⟩;nofun;refine⟨⟨∅,∅,af (by show 1*_<=1000;omega)⟩,?_⟩;nofun;refine⟨af (by rw[d0,d0];show 4*2+_*1<=1000;omega),?_⟩;nofun
 iterate 4 (refine⟨af (aW rfl),?_⟩;nofun)
 iterate 2 (refine⟨af (aW rfl),?_⟩;nofun)
 refine⟨⟨∅,∅,af (by show 1*_<=1000;omega)⟩,?_⟩;nofun;refine⟨af (by rw[d0];show 3+_*1<=1000;omega),?_⟩;nofun;refine⟨⟨∅,∅⟩,?_⟩;refine wQ (n:=(30+(if (k==1)=true then (1:Int) else 0)).toNat) (λi M' aI=>Ex M M'/\aI=(List.range i).map λ(j:Nat)=>D.tup [.int (0+(j:Int)),.str "own",.int 99,.tup (CB (k==3)),.str "abcdefgh"]) (by decide) ⟨Ex.refl M,rfl⟩ ?_ ?_
 ·rintro i M' aI hi ⟨g,rfl⟩;refine⟨cy (by rw[cM,zt];omega),?_⟩;nofun;refine⟨af (aW rfl),?_⟩;nofun;refine⟨g,?_⟩;rw[List.range_succ,Di];rfl
 ·rintro M' aI ⟨g,rfl⟩;nofun
  iterate 3 (refine⟨af (aW rfl),?_⟩;nofun)
  refine⟨⟨∅,∅,af (by show 1*_<=1000;omega)⟩,?_⟩;nofun;have hm:(M'++[MO.lst ((List.range (30+(if (k==1)=true then (1:Int) else 0)).toNat).map λ(j:Nat)=>D.tup [.int (0+(j:Int)),.str "own",.int 99,.tup (CB (k==3)),.str "abcdefgh"])])[M'.length]?=some (.lst _):=aP;rw[eV hm];nofun
  iterate 2 (refine⟨af (aW rfl),?_⟩;nofun)
  refine⟨af (by rw[d0];show 1+_*1<=1000;omega),?_⟩;nofun;refine⟨af (aW rfl),rfl,g.app⟩
end br
end
section
namespace br
open L2 Ev
open PySem PySem.Spec PyProof.Rows
def cj:Nat->Nat
 | 0=>800000
 | n+1=>2*cj n+8000
theorem K6{G:a9}(hF:Cv (G 21))(Zt:s_ (G 15))(hD:dW (G 16))(Pu:FN (G 27))(Zu:tF 7 (G 29))(Zv:CA (G 30))(Rc:vn (G 32))(VZ:qS (G 33))(ns:List Int)(md:ns.length<=63):aL (aj G 7 Q4 [.ls (ns.map D.int)] []) λr _=>r=.d (.bl true):=by
 rw[bz];show eF G Q4 [some (.ls (ns.map D.int)),none,none,none,none,none,none] [] _ _ _ _;nofun;refine(hF [] ns md).imp ?_;rintro r M1 ⟨d,rfl,hd,JB,f1⟩;obtain⟨f,rfl,hf⟩:=uX hd;have Ux:=K5 hf JB;have Zw:∀M,LM M (10 ^ 19) (tf f):=λM=>PL hf (by decide);have PQ:∀M,Tg M (10 ^ 19) 31 800000 7 (tf f):=λM=>(Zw M).tg;nofun;refine(Pu M1 (tf f) ⟨_,_,_,_,PQ M1,by decide,by decide,by decide⟩).imp ?_;rintro r M2 ⟨rfl,f2⟩;rw[Ux];nofun;refine(Rc M2 _ _ _ _ (tf f) (PQ M2) (by decide) (by decide) (by decide) (by decide)).imp ?_;rintro r M3 ⟨rfl,f3⟩;nofun;refine(VZ M3 0).imp ?_;rintro r M4 ⟨rfl,f4⟩;nofun;refine(Pu M4 (Ra false false false false) ⟨10 ^ 19,_,_,_,CF (by decide),by decide,by decide,by decide⟩).imp ?_;rintro r M5 ⟨rfl,f5⟩;rw[FX];nofun;refine⟨⟨by decide,by decide⟩,?_⟩;refine wQ (n:=5) (λi M' aI=>aI=List.replicate i (D.bl true)) (by decide) rfl ?_ ?_
 ·rintro i M' aI hi rfl;refine⟨cy (by rw[CU];omega),?_⟩;nofun;refine(VZ M' (0+(i:Int))).imp ?_;rintro r M6 ⟨rfl,f6⟩;nofun;refine(Rc M6 (10 ^ 19) _ _ _ _ (CF (by decide)) (by decide) (by decide) (by decide) (by decide)).imp ?_;rintro r M7 ⟨rfl,f7⟩;nofun;exact List.replicate_succ'.symm
 ·rintro M6 aI rfl;nofun;refine⟨⟨by decide,by decide⟩,?_⟩;refine jM (n:=16) (λi ρ M'=>∃o2 o3 o4 o5,ρ=[some (.ls (ns.map D.int)),some (tf f),o2,o3,o4,o5,none]) ⟨_,_,_,_,rfl⟩ ?_ ?_
  ·rintro i ρ M' hi ⟨o2,o3,o4,o5,rfl⟩;nofun;refine(Zt M' ns (6+(0+(i:Int))) ∅ ∅ md).imp ?_;rintro r M8 ⟨rfl,hl8,PB,f8⟩;nofun;refine(hD M8 M'.length 0 2 PB (by decide) (by decide) (by decide)).imp ?_;rintro r M9 ⟨b,rfl,b0,b1,Q_,f9⟩;nofun;refine⟨⟨∅,∅⟩,?_⟩;refine jM (n:=(1+b).toNat) (λj ρ M2=>∃o5 d,ρ=[some (.ls (ns.map D.int)),some (tf f),some (.int (0+(i:Int))),some (.aC M'.length),some d,o5,none]/\Tg M2 (10 ^ 19+j) (31+j) (cj j) (7+8*j) d/\WA M2 M'.length (2+40*(j:Int))) ⟨_,_,rfl,PQ M9,Q_.mono ∅⟩ ?_ ?_
   ·rintro j ρ M2 hj ⟨o5,d,rfl,td,kX⟩;have Uy:j=0\/j=1:=∅;have tz:Tz M2 d:=⟨_,_,_,_,td,∅,∅,∅⟩
    have PR:∀M4,Fr M'.length M2 M4->WA M4 M'.length (2+40*(j:Int)+1)->aL (G 29 [.aC M'.length,d,.int 7] M4) λr M5=>∃e,r=.d e/\Tg M5 (10 ^ 19+(j+1:Nat)) (31+(j+1)) (cj (j+1)) (7+8*(j+1)) e/\WA M5 M'.length (2+40*((j+1:Nat):Int)):=λM4 g iP=>by
     refine(Zu M4 M'.length _ _ _ _ _ d iP ∅ (td.ls (Ls.fr g kX)) ∅ ∅ ∅ ∅ ∅).imp ?_;rintro r M5 ⟨e,h1,h2,h3,h4⟩;exact⟨e,h1,Tg.mono (Ex.refl _) ∅ ∅ h2 (ar _) ∅,h3.mono ∅⟩
    nofun;refine(Pu M2 d tz).imp ?_;rintro r M3 ⟨rfl,f3⟩;have m8:WA M3 M'.length (2+40*(j:Int)):=kX.fr f3 (eW kX.lt);have g3:Fr M'.length M2 M3:=(Fr.refl _ M2).ex f3 (.inl kX.lt)
    cases q:oR d with
    | some p =>
     obtain⟨w,k⟩:=p;nofun;refine(PR M3 g3 (m8.mono ∅)).imp ?_;rintro r M5 ⟨e,rfl,h2,h3⟩;nofun;exact⟨_,_,rfl,h2,h3⟩
    | none =>
     nofun;refine(hD M3 M'.length _ 3 m8 ∅ (by decide) (by decide)).imp ?_;rintro r M4 ⟨i4,rfl,VX,VY,iP,f4⟩;nofun
     cases q4:(i4==(0:Int))with
     | true =>
      nofun;have t4:=(td.ls (Ls.ex f3)).ls (Ls.fr f4 m8);refine(Zv M4 M'.length _ _ d iP ∅ (K4 t4 q) ∅ ∅).imp ?_;rintro r M5 ⟨e,rfl,h2,h3,h4⟩;nofun;refine⟨_,_,rfl,?_,h3.mono ∅⟩;exact Tg.mono (Ex.refl _) ∅ ∅ h2 (by rcases Uy with rfl | rfl<;>decide) ∅
     | false =>
      nofun;refine(PR M4 (g3.trans f4) (iP.mono ∅)).imp ?_;rintro r M5 ⟨e,rfl,h2,h3⟩;nofun;exact⟨_,_,rfl,h2,h3⟩
   ·rintro ρ M2 ⟨o5,d,rfl,td,kX⟩;have Uy:(1+b).toNat=1\/(1+b).toNat=2:=∅;nofun;refine(Rc M2 _ _ _ _ d td ∅ ∅ (by rcases Uy with e | e<;>rw[e]<;>decide) ∅).imp ?_;rintro r M3 ⟨rfl,f3⟩;nofun;exact⟨_,_,_,_,rfl⟩
  ·rintro ρ M' ⟨o2,o3,o4,o5,rfl⟩;nofun
   repeat (refine⟨af (aW rfl),?_⟩;nofun)
   obtain⟨N,hN⟩:∃N,N=M'++[MO.lst [tf f]]++[MO.lst [D.tup (f.ru.map zf),D.tup (f.ro.map uV)]]:=⟨_,rfl⟩;have n1:N[M'.length]?=some (.lst [tf f]):=by rw[hN];exact cR aP
   have n2:N[(M'++[MO.lst [tf f]]).length]?=some (.lst [D.tup (f.ru.map zf),D.tup (f.ro.map uV)]):=by rw[hN];exact aP
   obtain⟨e7,k7,q1,q2,q3,q4⟩:=(PQ N).tupI
   have hit:∀d∈[D.aK,D.tup [],D.tup [D.tup [],D.tup []],D.tup [D.tup [D.tup [D.int 0,D.tup []]],D.tup []],D.aC M'.length,D.aC (M'++[MO.lst [tf f]]).length,D.tup [D.tup (f.ru.map zf)],D.int 7,D.str "form"],Tg N (10 ^ 19) 31 900000 8 d:=by
    have v0:∀h,Tg N (10 ^ 19) 31 5 (h+1) (.tup []):=λh=>.tup 0 _ h _ (.nil _ _) ∅ (jk _);have i0:∀h,Tg N (10 ^ 19) 31 300 h (.int 0):=λh=>ie (show(0:Int).natAbs<=10 ^ 19 by decide);have v1:Tg N (10 ^ 19) 31 310 2 (.tup [.int 0,.tup []]):=.tup 305 _ 1 _ (.cons _ 300 5 _ _ _ (i0 _) (.cons _ 5 0 _ _ _ (v0 0) (.nil _ _) ∅) ∅) ∅ (show 2<=31 by omega);have v2:Tg N (10 ^ 19) 31 315 3 (.tup [.tup [.int 0,.tup []]]):=.tup 310 _ 2 _ (.cons _ 310 0 _ _ _ v1 (.nil _ _) ∅) ∅ (show 1<=31 by omega);refine all_cons ?_ (all_cons ?_ (all_cons ?_ (all_cons ?_ (all_cons ?_ (all_cons ?_ (all_cons ?_ (all_cons ?_ (all_cons ?_ bM))))))))
    ·exact .at _ _ _ trivial ∅
    ·exact Tg.mono (Ex.refl _) (ar _) (ar _) (v0 7) ∅ ∅
    ·exact .tup 10 _ 7 _ (.cons _ 5 5 _ _ _ (v0 6) (.cons _ 5 0 _ _ _ (v0 6) (.nil _ _) ∅) ∅) ∅ (show 2<=31 by omega)
    ·exact .tup 320 _ 7 _ (.cons _ 315 5 _ _ _ (Tg.mono (Ex.refl _) (ar _) (ar _) v2 (ar _) ∅) (.cons _ 5 0 _ _ _ (v0 6) (.nil _ _) ∅) ∅) ∅ (show 2<=31 by omega)
    ·exact .lst 800000 _ 7 _ _ n1 (.cons _ 800000 0 _ _ _ (PQ N) (.nil _ _) ∅) ∅ (show 1<=31 by omega)
    ·exact .lst e7 _ 7 _ _ n2 (q3.mono (Ex.refl _) (ar _) (ar _) (ar _) ∅) ∅ (show 2<=31 by omega)
    ·exact .tup 800000 _ 7 _ (.cons _ 800000 0 _ _ _ (Tg.mono (Ex.refl _) (ar _) (ar _) (q3.mem _ dD) ∅ ∅) (.nil _ _) ∅) ∅ (show 1<=31 by omega)
    ·exact .at _ _ _ (show(7:Int).natAbs<=10 ^ 19 by decide) ∅
    ·exact .at _ _ _ (.inl ⋯) ∅
   generalize hits:[D.aK,D.tup [],D.tup [D.tup [],D.tup []],D.tup [D.tup [D.tup [D.int 0,D.tup []]],D.tup []],D.aC M'.length,D.aC (M'++[MO.lst [tf f]]).length,D.tup [D.tup (f.ru.map zf)],D.int 7,D.str "form"]=aA at hit
   have go:eA (cY (λρ M=>bO G [.iff (.neg (.val (.call 32 [(.eO 6)]))) [.ret (.aN (.bl false))] []] ρ M) (.items aA) [6] aA.length 0 [some (.ls (ns.map D.int)),some (tf f),o2,o3,o4,o5,none] N) (λρ M=>eF G [.ret (.aN (.bl true))] ρ M (λ_ _=>W.d D.aK=.d (.bl true)) (λr _=>r=.d (.bl true)) (λ_ _=>False) (λ_ _=>False)) (λr _=>r=.d (.bl true)) (λ_ _=>False) (λ_ _=>False):=by
    refine qE (ds:=aA) (λi ρ M2=>∃o6,ρ=[some (.ls (ns.map D.int)),some (tf f),o2,o3,o4,o5,o6]/\Ex N M2) ⟨_,rfl,Ex.refl _⟩ ?_ ?_
    ·rintro i ρ M2 d hd ⟨o6,rfl,g⟩;nofun;refine(Rc M2 _ _ _ _ d ((hit d (dC hd)).ls (Ls.ex g)) (by decide) (by decide) (by decide) (by decide)).imp ?_;rintro r M3 ⟨rfl,f3⟩;nofun;exact⟨_,rfl,Ex.trans g f3⟩
    ·rintro ρ M2 ⟨o6,rfl,g⟩;nofun
   rw[hN]at go;exact go
theorem CG:∀ns:List Int,ns.length<=63->∃M,Pb [.ls (ns.map D.int)] []=.ok (.d (.bl true)) M:=by
 intro ns md;have h0:∀l,qJ (cv (c1 l) 0):=λl=>Ky;have h1:∀l,qK (cv (c2 l) 1):=λl=>Kz (h0 _);have h2:∀l,qL (cv (c3 l) 2):=λl=>KA (h1 _);have h3:∀l,tB (cv (c4 l) 3):=λl=>Pj;have h4:∀l,Cd (cv (c5 l) 4):=λl=>Pk (h3 _);have h5:∀l,fh (cv (c6 l) 5):=λl=>Ce;have h6:∀l,mV (cv (c7 l) 6):=λl=>KB;have h7:∀l,qP (cv (c8 l) 7):=λl=>FH (h5 _) (h6 _);have h8:∀l,Cf (cv (c9 l) 8):=λl=>Pl (h0 _) (h3 _) (h5 _);have h9:∀l,Cg (cv (Qt l) 9):=λl=>Pm (h2 _) (h3 _) (h4 _) (h5 _) (h6 _) (h8 _);have Zx:∀l,KH (cv (Qu l) 10):=λl=>T8 (h9 _);have Zy:∀l,oQ (cv (Qw l) 11):=λl=>Po (h1 _) (h5 _);have Zz:∀l,Ci (cv (Qy l) 12):=λl=>Pp (h2 _) (h5 _) (h6 _);have ZA:∀l,mW (cv (QA l) 13):=λl=>Ck;have ZB:∀l,vg (cv (QB l) 14):=λl=>KJ (h7 _) (Zx _) (Zy _) (Zz _) (ZA _);have Le:∀l,s_ (cv (QC l) 15):=λl=>OZ;have FZ:∀l,dW (cv (Pa l) 16):=λl=>Kk;have ZC:∀l,uT (cv (QD l) 17):=λl=>Kl (FZ _);have ZD:∀l,lJ (cv (QE l) 18):=λl=>FT (FZ _);have ZE:∀l,uU (cv (QF l) 19):=λl=>Ko (FZ _);have ZF:∀l,qR (cv (QG l) 20):=λl=>K0 (FZ _) (ZE _);have ZG:∀l,Cv (cv (QH l) 21):=λl=>PC (Le _) (FZ _) (ZC _) (ZD _) (ZF _);have Uz:∀l,jS (cv (QJ l) 22):=λl=>FJ;have ZH:∀l,vh (cv (QL l) 23):=λl=>KN;have UA:∀l,fh (cv (QM l) 24):=λl=>Ce;have ZI:∀l,oQ (cv (QO l) 25):=λl=>KO (Uz _) (UA _);have ZJ:∀l,vj (cv (QQ l) 26):=λl=>KP (Uz _) (ZH _) (UA _);have V0:∀l,FN (cv (QS l) 27):=λl=>Uc (Uz _) (UA _) (ZI _) (ZJ _);have ZK:∀l,FR (cv (GU l) 28):=λl=>Ue (FZ _);have ZL:∀l,tF 7 (cv (QU l) 29):=λl=>G4 FZ ZK 9 7 (by decide) (by decide);have LJ:∀l,CA (cv (QW l) 30):=λl=>PM (FZ _);have ZM:∀l,Cp (cv (QY l) 31):=λl=>Pt (ZB _);have ZN:∀l,vn (cv (Q0 l) 32):=λl=>KS (V0 _) (ZM _);have ZO:∀l,qS (cv (Q3 l) 33):=λl=>FY;obtain⟨r,M,e,q⟩:=BL (K6 (G:=cv (Q3 [])) (ZG _) (Le _) (FZ _) (V0 _) (ZL _) (LJ _) (ZN _) (ZO _) ns md);subst q;exact⟨M,e⟩
end br
end
section
namespace br
open L2 Ev PySem PySem.Spec PyProof.Rows
theorem ZP{P:Params}{h:Heap}{mg:Str->Option Value}(X:(Kf P).In h)(G:h.Ns mainGlobals mg):∀b∈cI,mg b=none:=by
 have z:cI.all (λb=>match PySem.W.nsIn (Kf P) mainGlobals b with | some none=>true | _=>false)=true:=nofun;intro b hb;have q:=gM.mp z b hb;split at q
 ·rename_i e;exact PySem.W.mg_none_of X G e
 ·cases q
noncomputable def xi:XI:=⟨[(("NoForm" : Str),44,["word","number"])],[((.one "NoForm"),44,true),(.ve,44,true),((.many ["NoCut","NoDeed","NoLine","NoNumbers","NoRow","NoRun","NoTaking","NoText","NoWorld","NoZigzag"]),44,false)],[(("CutError" : Str),44,["word","number"])],[]⟩
abbrev ZQ:XI:={xi with hs:=[]}
theorem Ha{P:Params}:pR (Kf P) 44 24 41 ["word","number"]:=pR.of (show(Kf P).lookup 44=some (kl "NoForm" 44 43 [(.ref 24)] ((.ref 24)::VE) [] (.ref 28) 207 215) by kernel_rfl) (nofun) (nofun) (nofun) (show(Kf P).lookup 24=some (kl "CutError" 24 23 [(.type "ValueError")] VE [(.ref 44),(.ref 63),(.ref 82),(.ref 101),(.ref 120),(.ref 139),(.ref 158),(.ref 177),(.ref 196),(.ref 215),(.ref 234)] (.ref 15) 189 197) by kernel_rfl) (nofun) (nofun) (OW (nofun))
theorem PU{P:Program}{w:World}{mg:Str->Option Value}{base:Heap}:eZ P w (Kf w.params) mg base y9 1 41 (PySem.W.fnOf "__init__" "NoForm.__init__" (fu y6) (bZ y6) (aG y6) .none .none .none m3 none (.ref 40) .none) ("self" :: ["word","number"]) (IM (Kf w.params) 44 24 41 ["word","number"]):=Aw (uj (show(Kf w.params).lookup 41=some (fo (PySem.W.fnOf "__init__" "NoForm.__init__" (fu y6) (bZ y6) (aG y6) .none .none .none m3 none (.ref 40) .none)) by kernel_rfl) (nofun) (nofun)) (uM ⋯) rfl ⋯
theorem CH{P:Program}{w:World}{h base:Heap}{mg:Str->Option Value}(X:(Kf w.params).In h)(G:h.Ns mainGlobals mg):Tp P w (Kf w.params) mg base xi:=by
 refine⟨λx a f e=>?_,OU X G (nofun),OV X G (nofun) λcb C fs hm=>?_⟩
 ·unfold xi at e;dsimp only at e;rw[dm]at e;split at e
  ·rename_i q
   obtain rfl:=eq_of_beq q;cases e;exact⟨_,_,_,_,_,Ha,(show(Kf w.params).lookup 41=some (fo (PySem.W.fnOf "__init__" "NoForm.__init__" (fu y6) (bZ y6) (aG y6) .none .none .none m3 none (.ref 40) .none)) by kernel_rfl),rfl,PU,.all (λus hl=>match us,hl with | [_,_,_],_=>rfl),rg X G (nofun)⟩
  cases e
 ·unfold xi at hm;simp only[cq,zB,List.not_mem_nil,j5]at hm;rcases hm with⟨rfl,rfl,rfl⟩
  ·exact⟨_,_,Ha⟩
theorem vq{P:Program}{w:World}{h base:Heap}{mg:Str->Option Value}(X:(Kf w.params).In h)(G:h.Ns mainGlobals mg):Tp P w (Kf w.params) mg base ZQ:=⟨(CH (P:=P) (base:=base) X G).cl,(CH (P:=P) (base:=base) X G).kt,(CH (P:=P) (base:=base) X G).ct⟩
abbrev AL(l:PySem.W.OpenLaw)(w:World)(mg:Str->Option Value)(base:Heap)(k i:Nat):=All l.prog w (Kf w.params) mg base k (fs.take i)
theorem all_mk{l:PySem.W.OpenLaw}{w:World}{h:Heap}{mg:Str->Option Value}{fa:Addr}(X:(Kf w.params).In h)(G:h.Ns mainGlobals mg) (ZR:mg "law" = some (.ref fa)):∃fd:FuncData,(∀(s:Shared)(v:Value),BindsTo s fd ⟨[v],[]⟩ [("_law_script",v)])/\∀base:Heap,(Kf w.params).In base->base.Ns mainGlobals mg->eZ l.prog w (Kf w.params) mg base (yA l.prog w) 43 fa fd ["_law_script"] (yN (Kf w.params) 1 Pb):=by
 have W:Cw (Kf w.params) h mg gs:=⟨X,G,ZP X G,JK X G (nofun)⟩;cases ZR.symm.trans (rg X G (show PySem.W.nsIn (Kf w.params) mainGlobals "law" = some (some (.ref 463)) by kernel_rfl));refine⟨fq "law" Hw m2 (.ref 462),λs v=>.of_eq rfl,λbase _ _=>?_⟩;have A0:AL l w mg base 0 0 []:=All.nil;have A1:AL l w mg base 1 1 (c1 []):=nx "is_whole" 243 UC n0 ["thing"] b0 m0 (.ref 242) W A0;have A2:AL l w mg base 2 2 (c2 []):=nx "is_below" 250 UD n1 ["thing","bound"] b1 m0 (.ref 249) W A1;have A3:AL l w mg base 3 3 (c3 []):=nx "is_state" 257 UE n2 ["thing"] b2 m0 (.ref 256) W A2;have A4:AL l w mg base 4 4 (c4 []):=nx "is_sign" 264 UG n3 ["thing"] b3 m0 (.ref 263) W A3;have A5:AL l w mg base 5 5 (c5 []):=nx "is_word" 269 UH n4 ["thing"] b4 m0 (.ref 268) W A4;have A6:AL l w mg base 6 6 (c6 []):=nx "is_tuple_of" 276 UI n5 ["thing","many"] b5 m0 (.ref 275) W A5;have A7:AL l w mg base 7 7 (c7 []):=nx "is_tuple_to" 283 UJ n6 ["thing","most"] b6 m0 (.ref 282) W A6;have A8:AL l w mg base 8 8 (c8 []):=nx "is_form_shaped" 297 UK n7 ["thing"] b7 m1 (.ref 296) W A7;have A9:AL l w mg base 9 9 (c9 []):=nx "is_send" 330 UL n8 ["thing","own_roads"] b8 m1 (.ref 329) W A8;have ZS:AL l w mg base 10 10 (Qt []):=nx "is_move" 323 UM n9 ["thing","own_roads"] b9 m1 (.ref 322) W A9;have ZT:AL l w mg base 11 11 (Qu []):=Tq "ask_moves" 318 LO XT ["moves","own_roads","moves_ahead"] O9 m1 (.ref 317) W ZS (vq X G) (by decide) (λ_ _ _ _ z=>nomatch z);have ZU:AL l w mg base 12 12 (Qw []):=nx "is_road" 304 LP XV ["thing","machines"] Qv m1 (.ref 303) W ZT;have ZV:AL l w mg base 13 13 (Qy []):=nx "is_rule_shaped" 311 LQ XX ["thing"] Qx m1 (.ref 310) W ZU;have ZW:AL l w mg base 14 14 (QA []):=nx "sends_of" 335 LR XY ["form","m"] Qz m1 (.ref 334) W ZV;have ZX:AL l w mg base 15 15 (QB []):=Tq "right_form" 290 LS XZ ["thing"] O_ m1 (.ref 289) W ZW (vq X G) (by decide) (λ_ _ _ _ z=>nomatch z);have ZY:AL l w mg base 16 16 (QC []):=nx "_law_well" 342 LU X2 ["_law_script","_law_k"] Vx m2 (.ref 341) W ZX;have ZZ:AL l w mg base 17 17 (Pa []):=nx "_law_draw" 349 LV X3 ["_law_well_here","_law_many"] Vy m2 (.ref 348) W ZY;have Z0:AL l w mg base 18 18 (QD []):=nx "_law_roads" 356 LW X4 ["_law_well_here","_law_machines"] Vz m2 (.ref 355) W ZZ;have Z2:AL l w mg base 19 19 (QE []):=nx "_law_states" 363 LX X6 ["_law_well_here"] VA m2 (.ref 362) W Z0;have Z3:AL l w mg base 20 20 (QF []):=nx "_law_sends" 370 LY X8 ["_law_well_here","_law_ways"] VB m2 (.ref 369) W Z2;have Z4:AL l w mg base 21 21 (QG []):=nx "_law_moves" 377 LZ X_ ["_law_well_here","_law_some","_law_ways"] VC m2 (.ref 376) W Z3;have Z5:AL l w mg base 22 22 (QH []):=nx "_law_form" 382 L0 Yc ["_law_script"] VD m2 (.ref 381) W Z4;have Z6:AL l w mg base 23 23 (QJ []):=nx "_law_whole" 389 L1 Ye ["_law_thing","_law_low","_law_high"] QI m2 (.ref 388) W Z5;have Z7:AL l w mg base 24 24 (QL []):=nx "_law_word" 394 L3 Yh ["_law_thing","_law_most"] QK m2 (.ref 393) W Z6;have Z8:AL l w mg base 25 25 (QM []):=nx "_law_long" 401 L4 Yj ["_law_thing","_law_many"] VF m2 (.ref 400) W Z7;have Z9:AL l w mg base 26 26 (QO []):=nx "_law_is_road" 408 L5 Yl ["_law_thing","_law_machines"] QN m2 (.ref 407) W Z8;have Z_:AL l w mg base 27 27 (QQ []):=nx "_law_is_move" 415 L6 Yn ["_law_thing","_law_roads_here","_law_m"] QP m2 (.ref 414) W Z9;have A28:AL l w mg base 28 28 (QS []):=nx "_law_due" 420 L7 Yp ["_law_thing"] QR m2 (.ref 419) W Z_;have A29:AL l w mg base 29 29 (GU []):=nx "_law_odd" 427 L8 Yr ["_law_well_here","_law_part"] QT m2 (.ref 426) W A28;have A30:AL l w mg base 38 30 (QU []):=Vp "_law_bent" 434 L9 Yt ["_law_well_here","_law_part","_law_deep"] LG m2 (.ref 433) W A29 (n:=9);have A31:AL l w mg base 39 31 (QW []):=nx "_law_more" 439 L_ Yv ["_law_well_here","_law_form_here"] QV m2 (.ref 438) W A30;have A32:AL l w mg base 40 32 (QY []):=Tq "_law_told" 446 Ma Yx ["_law_thing"] QX m2 (.ref 445) W A31 (vq X G) (by decide) (λ_ _ _ _ z=>nomatch z);have A33:AL l w mg base 41 33 (Q0 []):=nx "_law_right" 453 Mb Yz ["_law_thing"] QZ m2 (.ref 452) W A32;have A34:AL l w mg base 42 34 (Q3 []):=nx "_law_widest" 458 Mc YB ["_law_more_here"] Q2 m2 (.ref 457) W A33;exact uN "law" 463 Hw YD ["_law_script"] Q4 m2 (.ref 462) W A34 (nofun) (nofun) (nofun) ⋯
theorem K7{K:PySem.W.Frag}{H:Hp}{a:Addr}{xs:List V}(hO:DW H)(h:fv K H a xs):sg K H a xs:=by
 rcases h with(h | ⟨o,h⟩) | h
 ·rcases hO a with q | ⟨o,ys,q⟩
  ·rw[q]at h;cases h
  ·rw[q]at h;cases h
 ·exact .inl ⟨o,h⟩
 ·exact .inr h
theorem tP{K:PySem.W.Frag}{H:Hp}{ads:List Addr}:∀(ns:List Int),aT K ads H (ns.map D.int) (ns.map V.int)
 | []=>by unfold aT;rfl
 | i::ns=>by
  show aT K ads H (D.int i::ns.map D.int) (V.int i::ns.map V.int);unfold aT;exact⟨_,_,rfl,by unfold RD;rfl,tP ns⟩
theorem walk {l : PySem.W.OpenLaw} {q : Program} {loose : List Str} {XP : (Str -> Option Value) -> Heap -> Prop} {YP : World -> Heap -> Prop} {d : DefRec} {K : Params -> PySem.W.Frag} (UB : ∀ ns : List Int, ns.length <= 63 -> ∃ M, Pb [.ls (ns.map D.int)] [] = .ok (.d (.bl true)) M) (hn : l.most = some 63) (Nj : d.params.defaults = [])
    (hY:∀(w:World)(h:Heap),YP w h->(K w.params).In h)
    (F:∀(w:World)(mg:Str->Option Value)(fa:Addr)(h:Heap),(K w.params).In h->h.Ns mainGlobals mg->mg d.name=some (.ref fa) ->
      ∃fd:FuncData,(∀(s:Shared)(u:Value),BindsTo s fd ⟨[u],[]⟩ [("_law_script",u)])/\∀base:Heap,(K w.params).In base->base.Ns mainGlobals mg->eZ l.prog w (K w.params) mg base (yA l.prog w) 43 fa fd ["_law_script"] (yN (K w.params) 1 Pb)) :
    PySem.W.WalkO q loose XP YP l.row.toRowW d [] (λf vs=>PySem.call f vs) :=
  L2.DX (n:=63) (k:=43) (x := "_law_script") (CX:=λw=>yA l.prog w) (sp:=λw=>yN (K w.params) 1 Pb) hn (by decide) Nj ⟨rfl,by decide,by decide,rfl⟩ hY F (λw H a ns hl hO hS=>by
    obtain⟨M,hM⟩:=UB ns hl;refine⟨[],[],[.ls (ns.map D.int)],⟨λi j a e _=>by simp at e,rfl,λn o a e _=>by simp at e⟩,.one ?_,rfl,?_⟩
    · unfold RD;exact⟨a,_,rfl,K7 hO hS,tP ns⟩
    · rw[hM];intro v H' ax _ _ r;have r:RD (K w.params) ax H' (.bl true) v:=r;unfold RD at r;exact r) λ_ _ _ _ _ ⟨_,_,_,_,_,_,_,_,_,_,_,_,_,z⟩=>z
theorem K8:PySem.W.OpenLaw.wellSaid PySem.Challenge.rw_cutstand_k01_what_is_a_form=true:=nofun
end br
end
end
open PySem PySem.W PyProof.Rows
set_option maxRecDepth 100000 in
set_option maxHeartbeats 0 in
theorem PySem.Challenge.cw_cutstand_k01_what_is_a_form_holds : PySem.Challenge.rw_cutstand_k01_what_is_a_form.Holds := by
 refine holds_law br.K8 λK8=>?_;refine holds_open (q:=br.vw) (loose:=[]) (Xt:=λs=>xlAt br.vw [] s&&recOk [] s) (XP:=XL br.vw []) (Yf:=Hook.obs br.hk) (Ya:=Hook.val br.hk) (YP:=Hook.says br.hk) (N:=8206) br.V5 (Hook.of br.hk) (Hook.keeps br.hk) (λs e=>xl_of s (Bool.and_eq_true_iff.mp e).1) XL.keeps (by rfl) (by rfl) (by rfl) (λs e=>recFacts_of (Bool.and_eq_true_iff.mp e).2) (by rfl) K8 ⋯ ⟨rfl,rfl,rfl,rfl,rfl,⋯⟩ ?hw ?hc
 case hw=>w_witness2
 case hc=>exact br.walk (l:=PySem.Challenge.rw_cutstand_k01_what_is_a_form) (K:=br.Kf) br.CG rfl rfl (λw h Y=>kIn_of Y) λw mg fa h KX G Nk=>br.all_mk KX G Nk
#print axioms PySem.Challenge.cw_cutstand_k01_what_is_a_form_holds
