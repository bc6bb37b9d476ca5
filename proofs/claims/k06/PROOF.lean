import PyProof.Rows.All
import KE.KDictOf
import KE.KIsAll
import KE.KEqDict
import KE.KFind
import KE.KxWritten
import Open.Tree
import PySem.Challenge.RW_cutstand_k06_runs
set_option Elab.async false
set_option linter.all false
set_option maxRecDepth 100000
set_option maxHeartbeats 4000000
open PySem.W (Frag)
local macro_rules
  | `(⋯) => `(by decide +kernel)
  | `(nofun) => `(by kernel_rfl)
  | `(∅) => `(by omega)
  | `(tactic| omega) => `(tactic| first | with_reducible assumption | decide +kernel | lia | omega (config := {}))
abbrev aj:=@PySem.wpAny_bind
abbrev aB:=@List.length_map
abbrev bG:=@List.getElem?_eq_some_iff
abbrev aR:=@Bool.and_eq_true
abbrev aY:=@Bool.false_ne_true
abbrev aE:=@Nat.le_refl
abbrev bZ:=@List.getElem?_eq_getElem
abbrev aO:=@PySem.wpAny_pure
abbrev cI:=@PySem.Heap.get?_push_of_some
abbrev bJ:=@Nat.le_trans
abbrev bT:=@List.mem_cons
abbrev bP:=@PySem.Heap.lt_size
abbrev dP:=@List.mem_cons_of_mem
abbrev aF:=@if_pos
abbrev c_:=@List.getElem?_map
abbrev dz:=@List.length_append
abbrev df:=@List.size_toArray
abbrev cR:=@Option.some.inj
abbrev aP:=@if_neg
abbrev dg:=@List.length_take
abbrev ez:=@List.mem_cons_self
abbrev fw:=@List.mem_of_getElem?
abbrev fH:=@Nat.lt_of_lt_of_le
abbrev e_:=@List.lookup_cons
abbrev jB:=@List.getD_eq_getElem?_getD
abbrev eU:=@decide_eq_false
abbrev eV:=@List.mem_append
abbrev eJ:=@List.map_cons
abbrev fJ:=@List.length_cons
abbrev kG:=@List.getElem?_append_left
abbrev gX:=@PySem.Heap.get?_push_size
abbrev fW:=@List.mem_nil_iff
abbrev eK:=@Nat.ne_of_lt
abbrev gY:=@PySem.wpAny_loadPart_at
abbrev gy:=@List.map_append
abbrev fX:=@decide_eq_true
abbrev jC:=@List.mem_of_mem_take
abbrev gZ:=@List.length_drop
abbrev jD:=@List.filterMap_cons
abbrev kH:=@List.getElem?_set_ne
abbrev cN:=@Ne.symm
abbrev i4:=@Bool.not_eq_true'
abbrev lO:=@List.mem_append_right
abbrev fK:=@List.mem_map
abbrev mH:=@List.getElem?_set_self
abbrev gQ:=@PySem.W.mg_of
abbrev fL:=@PySem.wpAny_field
abbrev i_:=@List.find?_cons
abbrev ja:=@List.length_set
abbrev jE:=@List.take_length
abbrev dA:=@if_true
abbrev mI:=@PySem.mem_of_lookup
abbrev sH:=@List.getElem?_append_right
abbrev lP:=@PySem.wpAny_newObj_type
abbrev kI:=@List.length_nil
abbrev oJ:=@beq_eq_false_iff_ne
abbrev yM:=@PyProof.Rows.slot_tuple_getitem
abbrev fb:=@or_false
abbrev jF:=@Nat.lt_irrefl
abbrev lQ:=@PySem.W.kia_one
abbrev sI:=@PySem.Heap.get?_update_other
abbrev mJ:=@beq_self_eq_true
abbrev vh:=@List.getElem?_eq_none_iff
abbrev vj:=@Option.isSome_iff_exists
abbrev sJ:=@PySem.F.attrBase_ValueError
abbrev iI:=@beq_iff_eq
abbrev sL:=@List.mem_of_mem_drop
abbrev kJ:=@Nat.le_of_lt
abbrev yN:=@Array.getElem?_eq_some_iff
abbrev vk:=@PySem.PyData.canLayAll0.eq_1
abbrev vm:=@PySem.PyData.canLayAll0.eq_2
abbrev qh:=@PySem.wpAny_truthy_bool
abbrev qj:=@decide_eq_true_eq
abbrev sM:=@PySem.PyData.canLay0.eq_3
abbrev jb:=@PySem.wpAny_mono
abbrev oK:=@List.append_nil
abbrev lR:=@List.map_nil
abbrev qk:=@List.getElem_mem
abbrev sN:=@PySem.F.store_ValueError
abbrev mK:=@PySem.wpAny_holding
abbrev vp:=@PySem.PyData.depthAll.eq_1
abbrev vq:=@PySem.PyData.depthAll.eq_2
abbrev yO:=@PySem.wpAny_callSpecial?_slot
abbrev sO:=@Option.some.injEq
abbrev sP:=@PySem.PyData.depth.eq_6
abbrev vt:=@Array.length_toList
abbrev sQ:=@List.all_eq_true
abbrev yP:=@PySem.Heap.get?_update_self
abbrev AF:=@List.isEmpty_eq_false_iff
abbrev mL:=@Nat.zero_le
abbrev jc:=@and_self
abbrev yQ:=@List.replicate_succ
abbrev yR:=@PySem.PyData.canLay0.eq_4
abbrev yS:=@PySem.PyData.canLay0.eq_6
abbrev sR:=@PySem.Heap.size_push
abbrev AG:=@List.take_of_length_le
abbrev oM:=@Int.le_refl
abbrev vv:=@Option.map_some
abbrev EA:=@PySem.F.slot_tuple_iterator_next
abbrev yT:=@Int.toNat_natCast
abbrev yU:=@List.append_assoc
abbrev yV:=@PySem.PyData.depth.eq_7
abbrev yW:=@PySem.PyData.depth.eq_2
abbrev AH:=@PySem.F.excBase_ValueError
abbrev EB:=@List.mem_of_find?_eq_some
abbrev yX:=@PySem.wpAny_call_entry
abbrev EC:=@List.length_filterMap_le
abbrev AI:=@List.getElem?_range
abbrev vA:=@List.map_take
abbrev yY:=@List.mem_filter
abbrev AJ:=@PySem.wpAny_setField_rec
abbrev yZ:=@Bool.or_eq_true
abbrev AK:=@List.pairwise_cons
abbrev AM:=@Bool.false_eq_true
abbrev Jf:=@List.eq_nil_of_length_eq_zero
abbrev AN:=@List.flatten_cons
abbrev AO:=@Nat.le_of_succ_le
abbrev vB:=@Nat.le_of_eq
abbrev ED:=@PySem.F.slot_enumerate_next
abbrev EE:=@Array.getElem?_toList
abbrev EF:=@List.getElem?_eq_none
abbrev EG:=@List.filterMap_append
abbrev Jg:=@PyProof.Rows.callWith_type1
abbrev EH:=@List.mem_append_left
abbrev oN:=@congrArg
abbrev AQ:=@List.filter_cons
abbrev oO:=@if_false
abbrev sS:=@Nat.not_lt
abbrev EI:=@List.mem_iff_getElem
abbrev EJ:=@PySem.codeAny_call_builtin
abbrev EK:=@Bool.or_eq_false_iff
abbrev AR:=@List.isEmpty_iff
abbrev EL:=@List.getElem?_mapIdx
abbrev y3:=@PySem.wpAny_standAt
abbrev EM:=@PySem.Heap.SameBut.update
abbrev AS:=@PySem.wpAny_execs_nil
abbrev AU:=@PySem.wpAny_passesOwn
abbrev AV:=@List.nodup_cons
abbrev Jh:=@List.pairwise_iff_getElem
abbrev AW:=@PySem.PyData.eqv.eq_5
abbrev EN:=@PySem.wpAny_Call_Name_kw
abbrev EO:=@PySem.tupleKind_room_in1
abbrev Ji:=@PySem.F.args_tuple_add_2
abbrev ER:=@PySem.Obj.data_mapFields
abbrev Jj:=@PySem.F.slot_list_getattribute
abbrev y4:=@List.map_map
abbrev ES:=@Int.emod_lt_of_pos
abbrev ET:=@PySem.PyData.eqvAll.eq_1
abbrev AX:=@PySem.wpAny_setField
abbrev vC:=@PySem.wpAny_rule
abbrev Jk:=@PySem.F.entry_tuple_add
abbrev EU:=@List.any_eq_false
abbrev EV:=@PySem.F.plainAttrs_list
abbrev Jl:=@PySem.F.slot_tuple_add
abbrev y6:=@Nat.le_succ
abbrev N3:=@List.findIdx?_eq_some_iff_getElem
abbrev Jm:=@PySem.Heap.size_after_update
abbrev AY:=@PySem.Paired.length
abbrev AZ:=@List.any_cons
abbrev A_:=@List.map_drop
abbrev EW:=@Nat.lt_succ_self
abbrev Jn:=@List.length_replicate
abbrev Jo:=@PySem.Obj.isFreed_of_fields
abbrev Jp:=@PySem.builtinLookup_eq_fast
abbrev Jq:=@PySem.F.typeOf_object_class
abbrev ql:=@Iff.rfl
abbrev Jr:=@List.take_append_drop
abbrev Js:=@PySem.Heap.get?_none_of_le
abbrev Ba:=@Nat.ne_of_gt
abbrev Bb:=@PySem.codeAny_mono
abbrev Bc:=@Nat.lt_trans
abbrev Bd:=@PySem.wpAny_typeOf
abbrev Be:=@Nat.lt_or_ge
abbrev EY:=@Int.emod_nonneg
abbrev EZ:=@Nat.min_eq_left
abbrev Jt:=@List.mem_singleton
abbrev Ju:=@PySem.W.ns_none_of
abbrev E1:=@Bool.true_and
abbrev E2:=@Prod.mk.injEq
abbrev Jv:=@Option.isSome_map
abbrev Jw:=@List.foldl_append
abbrev Jx:=@of_decide_eq_true
abbrev Jy:=@List.length_range
noncomputable section
section
namespace L2
open PySem PySem.Spec PyProof.Rows
noncomputable def fB(s:Stmt):Arguments:=match s with
 | .FunctionDef _ a _ _ _ _ _ _ _ _=>a
 | _=>{posonlyargs:=[],args:=[],vararg:=none,kwonlyargs:=[],kw_defaults:=[],kwarg:=none,defaults:=[]}
noncomputable def cv(s:Stmt):List Stmt:=match s with
 | .FunctionDef _ _ b _ _ _ _ _ _ _=>b
 | _=>[]
noncomputable def aI(s:Stmt):Scope:=match s with
 | .FunctionDef _ _ _ _ _ _ sc _ _ _=>sc
 | _=>{kind:=.function,names:=[],isGenerator:=false,isCoroutine:=false}
abbrev VE:List Value:=[.type "ValueError",.type "Exception",.type "BaseException",.type "object"]
end L2
namespace Ev
open L2
open PySem PySem.Spec PyProof.Rows
abbrev fq(x:Str)(s:Stmt)(m c:Value):FuncData:=PySem.W.fnOf x x (fB s) (cv s) (aI s) .none .none .none m none c .none
noncomputable def fo(f:FuncData):Obj:=⟨.type "function",none,.func f,#[]⟩
end Ev
namespace dB
open L2 Ev PySem PySem.Spec PyProof.Rows
noncomputable def cj(i:Nat):Stmt:=PySem.Challenge.pw_cutstand_k06_runs.main.body.getD i (.Pass ⟨0,0,0,0⟩)
abbrev Wm:=cj 14
abbrev Wn:=cj 15
abbrev Wo:=cj 16
abbrev Wq:=cj 18
abbrev Wr:=cj 20
abbrev Ws:=cj 22
abbrev Wt:=cj 23
abbrev Wu:=cj 25
abbrev Wv:=cj 24
abbrev Ww:=cj 27
abbrev N4:=cj 28
abbrev N5:=cj 29
abbrev N6:=cj 26
abbrev N7:=cj 31
abbrev N8:=cj 30
abbrev N9:=cj 33
abbrev N_:=cj 34
abbrev Oa:=cj 35
abbrev Ob:=cj 36
abbrev Oc:=cj 37
abbrev Od:=cj 38
abbrev Oe:=cj 39
abbrev Of:=cj 40
abbrev Og:=cj 41
abbrev Oh:=cj 42
abbrev Oi:=cj 43
abbrev Oj:=cj 44
abbrev Ol:=cj 45
abbrev Om:=cj 46
abbrev Oo:=cj 47
abbrev Oq:=cj 48
abbrev Jz:=cj 49
abbrev Ot:=cj 50
abbrev Ou:=cj 51
abbrev Ov:=cj 52
abbrev JA:=cj 53
noncomputable def Yt:Stmt->Stmt
 | .ClassDef _ _ _ b _ _ _ _ _ _ _=>b.getD 0 (.Pass ⟨0,0,0,0⟩)
 | s=>s
abbrev Am:=Yt (cj 3)
abbrev m0:Value:=(.str "cutstand.kinds" 498)
abbrev m1:Value:=(.str "cutstand.forms" 522)
abbrev m2:Value:=(.str "cutstand.stands" 535)
abbrev m3:Value:=(.str "cutstand.plain" 545)
abbrev m4:Value:=(.str "law_cutstand_k06_runs" 643)
abbrev kl(nm:Str)(C N:Addr)(bs bm sub:List Value)(k0:Value)(t2 t3:Nat):Obj:=excClassObj nm nm C N bs bm true [] sub false none none (some k0) none (some (.str nm t2)) (some (.str nm t3)) (some (.bool true)) "ValueError.__new__"
abbrev m5:Value:=(.str "cutstand.errors" 187)
noncomputable def en(P:Params)(k:Str)(t:Nat)(v:Value):DictEntry:=⟨PyData.keyHash P k,.str k t,v⟩
noncomputable def co(a:Array Value):Obj:=⟨.type "code",none,.fields a,#[]⟩
def cp(n:Nat):Value:=.str "/claim/cut.py" n
def iv(n:Nat):Value:=.int n 0
def Kf(P:Params):Frag:=[(3,⟨(.type "dict"),none,.dict #[en P "__name__" 165 (.str "law_cutstand_k06_runs" 643),en P "__doc__" 166 .none,en P "__package__" 167 .none,en P "__loader__" 168 (.builtin "__main__.__loader__#opaque"),en P "__spec__" 169 .none,en P "__annotations__" 170 (.ref 6),en P "__builtins__" 171 (.ref 4),en P "__file__" 173 (cp 172),en P "__cached__" 174 .none,en P "CutError" 206 (.ref 24),en P "NoForm" 233 (.ref 44),en P "NoDeed" 258 (.ref 63),en P "NoCut" 285 (.ref 82),en P "NoTaking" 312 (.ref 101),en P "NoNumbers" 339 (.ref 120),en P "NoLine" 368 (.ref 139),en P "NoZigzag" 395 (.ref 158),en P "NoWorld" 422 (.ref 177),en P "NoRun" 447 (.ref 196),en P "NoText" 472 (.ref 215),en P "NoRow" 497 (.ref 234),en P "is_whole" 506 (.ref 243),en P "is_below" 514 (.ref 250),en P "is_sign" 521 (.ref 257),en P "answer" 534 (.ref 264),en P "waits" 544 (.ref 271),en P "is_plain" 554 (.ref 278),en P "machine_of" 562 (.ref 285),en P "can" 571 (.ref 292),en P "may_come" 577 (.ref 297),en P "outcome" 593 (.ref 304),en P "cause_of" 601 (.ref 311),en P "less_letter" 607 (.ref 316),en P "more_letter" 615 (.ref 323),en P "run" 628 (.ref 330),en P "steps" 642 (.ref 337),en P "_law_well" 653 (.ref 344),en P "_law_draw" 665 (.ref 351),en P "_law_roads" 678 (.ref 358),en P "_law_states" 689 (.ref 365),en P "_law_sends" 700 (.ref 372),en P "_law_moves" 717 (.ref 379),en P "_law_form" 723 (.ref 384),en P "_law_answer" 729 (.ref 389),en P "_law_comes" 735 (.ref 394),en P "_law_answered" 748 (.ref 401),en P "_law_machine" 756 (.ref 408),en P "_law_done" 762 (.ref 413),en P "_law_load" 775 (.ref 420),en P "_law_stand" 781 (.ref 425),en P "_law_next" 787 (.ref 430),en P "_law_deeds" 802 (.ref 437),en P "_law_told" 813 (.ref 444),en P "_law_due" 825 (.ref 451),en P "_law_right" 837 (.ref 458),en P "_law_bent" 850 (.ref 465),en P "law" 856 (.ref 470)] 57,#[]⟩),(242,co #[(.str "is_whole" 500),(.str "is_whole" 501),(cp 502),(iv 57),(iv 1),(iv 0),(iv 0),(iv 3),(.ref 237),(.bool true),(iv 181),(.ref 238),.none,(.ref 239),(.ref 240),(.ref 241),(iv 504),(iv 57),(cp 505)]),(243,fo (fq "is_whole" Wm m0 (.ref 242))),(249,co #[(.str "is_below" 507),(.str "is_below" 508),(cp 509),(iv 59),(iv 2),(iv 0),(iv 0),(iv 3),(.ref 244),(.bool true),(iv 181),(.ref 245),.none,(.ref 246),(.ref 247),(.ref 248),(iv 512),(iv 59),(cp 513)]),(250,fo (fq "is_below" Wn m0 (.ref 249))),(256,co #[(.str "is_sign" 515),(.str "is_sign" 516),(cp 517),(iv 61),(iv 1),(iv 0),(iv 0),(iv 3),(.ref 251),(.bool true),(iv 181),(.ref 252),.none,(.ref 253),(.ref 254),(.ref 255),(iv 519),(iv 61),(cp 520)]),(257,fo (fq "is_sign" Wo m0 (.ref 256))),(263,co #[(.str "answer" 524),(.str "answer" 525),(cp 526),(iv 64),(iv 4),(iv 0),(iv 0),(iv 3),(.ref 258),(.bool true),(iv 181),(.ref 259),.none,(.ref 260),(.ref 261),(.ref 262),(iv 532),(iv 64),(cp 533)]),(264,fo (fq "answer" Wq m1 (.ref 263))),(270,co #[(.str "waits" 537),(.str "waits" 538),(cp 539),(iv 72),(iv 2),(iv 0),(iv 0),(iv 3),(.ref 265),(.bool true),(iv 181),(.ref 266),.none,(.ref 267),(.ref 268),(.ref 269),(iv 542),(iv 72),(cp 543)]),(271,fo (fq "waits" Wr m2 (.ref 270))),(277,co #[(.str "is_plain" 547),(.str "is_plain" 548),(cp 549),(iv 75),(iv 2),(iv 0),(iv 0),(iv 3),(.ref 272),(.bool true),(iv 181),(.ref 273),.none,(.ref 274),(.ref 275),(.ref 276),(iv 552),(iv 75),(cp 553)]),(278,fo (fq "is_plain" Ws m3 (.ref 277))),(284,co #[(.str "machine_of" 555),(.str "machine_of" 556),(cp 557),(iv 83),(iv 2),(iv 0),(iv 0),(iv 3),(.ref 279),(.bool true),(iv 181),(.ref 280),.none,(.ref 281),(.ref 282),(.ref 283),(iv 560),(iv 83),(cp 561)]),(285,fo (fq "machine_of" Wt m3 (.ref 284))),(291,co #[(.str "can" 563),(.str "can" 564),(cp 565),(iv 87),(iv 3),(iv 0),(iv 0),(iv 3),(.ref 286),(.bool true),(iv 181),(.ref 287),.none,(.ref 288),(.ref 289),(.ref 290),(iv 569),(iv 87),(cp 570)]),(292,fo (fq "can" Wv m3 (.ref 291))),(296,co #[(.str "may_come" 572),(.str "may_come" 573),(cp 574),(iv 95),(iv 3),(iv 0),(iv 0),(iv 3),(.ref 293),(.bool true),(iv 181),(.ref 294),.none,.none,.none,(.ref 295),(iv 575),(iv 95),(cp 576)]),(297,fo (fq "may_come" Wu m3 (.ref 296))),(303,co #[(.str "outcome" 578),(.str "outcome" 579),(cp 580),(iv 100),(iv 3),(iv 0),(iv 0),(iv 3),(.ref 298),(.bool true),(iv 181),(.ref 299),.none,(.ref 300),(.ref 301),(.ref 302),(iv 591),(iv 100),(cp 592)]),(304,fo (fq "outcome" N6 m3 (.ref 303))),(310,co #[(.str "cause_of" 594),(.str "cause_of" 595),(cp 596),(iv 114),(iv 2),(iv 0),(iv 0),(iv 3),(.ref 305),(.bool true),(iv 181),(.ref 306),.none,(.ref 307),(.ref 308),(.ref 309),(iv 599),(iv 114),(cp 600)]),(311,fo (fq "cause_of" Ww m3 (.ref 310))),(315,co #[(.str "less_letter" 602),(.str "less_letter" 603),(cp 604),(iv 120),(iv 2),(iv 0),(iv 0),(iv 3),(.ref 312),(.bool true),(iv 181),(.ref 313),.none,.none,.none,(.ref 314),(iv 605),(iv 120),(cp 606)]),(316,fo (fq "less_letter" N4 m3 (.ref 315))),(322,co #[(.str "more_letter" 608),(.str "more_letter" 609),(cp 610),(iv 122),(iv 2),(iv 0),(iv 0),(iv 3),(.ref 317),(.bool true),(iv 181),(.ref 318),.none,(.ref 319),(.ref 320),(.ref 321),(iv 613),(iv 122),(cp 614)]),(323,fo (fq "more_letter" N5 m3 (.ref 322))),(329,co #[(.str "run" 616),(.str "run" 617),(cp 618),(iv 124),(iv 3),(iv 0),(iv 0),(iv 3),(.ref 324),(.bool true),(iv 181),(.ref 325),.none,(.ref 326),(.ref 327),(.ref 328),(iv 626),(iv 124),(cp 627)]),(330,fo (fq "run" N8 m3 (.ref 329))),(336,co #[(.str "steps" 629),(.str "steps" 630),(cp 631),(iv 132),(iv 3),(iv 0),(iv 0),(iv 3),(.ref 331),(.bool true),(iv 181),(.ref 332),.none,(.ref 333),(.ref 334),(.ref 335),(iv 640),(iv 132),(cp 641)]),(337,fo (fq "steps" N7 m3 (.ref 336))),(343,co #[(.str "_law_well" 645),(.str "_law_well" 646),(cp 647),(iv 143),(iv 2),(iv 0),(iv 0),(iv 3),(.ref 338),(.bool true),(iv 181),(.ref 339),.none,(.ref 340),(.ref 341),(.ref 342),(iv 651),(iv 143),(cp 652)]),(344,fo (fq "_law_well" N9 m4 (.ref 343))),(350,co #[(.str "_law_draw" 654),(.str "_law_draw" 655),(cp 656),(iv 148),(iv 2),(iv 0),(iv 0),(iv 3),(.ref 345),(.bool true),(iv 181),(.ref 346),.none,(.ref 347),(.ref 348),(.ref 349),(iv 663),(iv 148),(cp 664)]),(351,fo (fq "_law_draw" N_ m4 (.ref 350))),(357,co #[(.str "_law_roads" 666),(.str "_law_roads" 667),(cp 668),(iv 158),(iv 2),(iv 0),(iv 0),(iv 3),(.ref 352),(.bool true),(iv 181),(.ref 353),.none,(.ref 354),(.ref 355),(.ref 356),(iv 676),(iv 158),(cp 677)]),(358,fo (fq "_law_roads" Oa m4 (.ref 357))),(364,co #[(.str "_law_states" 679),(.str "_law_states" 680),(cp 681),(iv 167),(iv 1),(iv 0),(iv 0),(iv 3),(.ref 359),(.bool true),(iv 181),(.ref 360),.none,(.ref 361),(.ref 362),(.ref 363),(iv 687),(iv 167),(cp 688)]),(365,fo (fq "_law_states" Ob m4 (.ref 364))),(371,co #[(.str "_law_sends" 690),(.str "_law_sends" 691),(cp 692),(iv 175),(iv 2),(iv 0),(iv 0),(iv 3),(.ref 366),(.bool true),(iv 181),(.ref 367),.none,(.ref 368),(.ref 369),(.ref 370),(iv 698),(iv 175),(cp 699)]),(372,fo (fq "_law_sends" Oc m4 (.ref 371))),(378,co #[(.str "_law_moves" 701),(.str "_law_moves" 702),(cp 703),(iv 181),(iv 3),(iv 0),(iv 0),(iv 3),(.ref 373),(.bool true),(iv 181),(.ref 374),.none,(.ref 375),(.ref 376),(.ref 377),(iv 715),(iv 181),(cp 716)]),(379,fo (fq "_law_moves" Od m4 (.ref 378))),(383,co #[(.str "_law_form" 718),(.str "_law_form" 719),(cp 720),(iv 193),(iv 1),(iv 0),(iv 0),(iv 3),(.ref 380),(.bool true),(iv 181),(.ref 381),.none,.none,.none,(.ref 382),(iv 721),(iv 193),(cp 722)]),(384,fo (fq "_law_form" Oe m4 (.ref 383))),(388,co #[(.str "_law_answer" 724),(.str "_law_answer" 725),(cp 726),(iv 205),(iv 4),(iv 0),(iv 0),(iv 3),(.ref 385),(.bool true),(iv 181),(.ref 386),.none,.none,.none,(.ref 387),(iv 727),(iv 205),(cp 728)]),(389,fo (fq "_law_answer" Of m4 (.ref 388))),(393,co #[(.str "_law_comes" 730),(.str "_law_comes" 731),(cp 732),(iv 210),(iv 2),(iv 0),(iv 0),(iv 3),(.ref 390),(.bool true),(iv 181),(.ref 391),.none,.none,.none,(.ref 392),(iv 733),(iv 210),(cp 734)]),(394,fo (fq "_law_comes" Og m4 (.ref 393))),(400,co #[(.str "_law_answered" 736),(.str "_law_answered" 737),(cp 738),(iv 218),(iv 3),(iv 0),(iv 0),(iv 3),(.ref 395),(.bool true),(iv 181),(.ref 396),.none,(.ref 397),(.ref 398),(.ref 399),(iv 746),(iv 218),(cp 747)]),(401,fo (fq "_law_answered" Oh m4 (.ref 400))),(407,co #[(.str "_law_machine" 749),(.str "_law_machine" 750),(cp 751),(iv 227),(iv 2),(iv 0),(iv 0),(iv 3),(.ref 402),(.bool true),(iv 181),(.ref 403),.none,(.ref 404),(.ref 405),(.ref 406),(iv 754),(iv 227),(cp 755)]),(408,fo (fq "_law_machine" Oi m4 (.ref 407))),(412,co #[(.str "_law_done" 757),(.str "_law_done" 758),(cp 759),(iv 229),(iv 3),(iv 0),(iv 0),(iv 3),(.ref 409),(.bool true),(iv 181),(.ref 410),.none,.none,.none,(.ref 411),(iv 760),(iv 229),(cp 761)]),(413,fo (fq "_law_done" Oj m4 (.ref 412))),(419,co #[(.str "_law_load" 763),(.str "_law_load" 764),(cp 765),(iv 243),(iv 2),(iv 0),(iv 0),(iv 3),(.ref 414),(.bool true),(iv 181),(.ref 415),.none,(.ref 416),(.ref 417),(.ref 418),(iv 773),(iv 243),(cp 774)]),(420,fo (fq "_law_load" Ol m4 (.ref 419))),(424,co #[(.str "_law_stand" 776),(.str "_law_stand" 777),(cp 778),(iv 253),(iv 2),(iv 0),(iv 0),(iv 3),(.ref 421),(.bool true),(iv 181),(.ref 422),.none,.none,.none,(.ref 423),(iv 779),(iv 253),(cp 780)]),(425,fo (fq "_law_stand" Om m4 (.ref 424))),(429,co #[(.str "_law_next" 782),(.str "_law_next" 783),(cp 784),(iv 262),(iv 3),(iv 0),(iv 0),(iv 3),(.ref 426),(.bool true),(iv 181),(.ref 427),.none,.none,.none,(.ref 428),(iv 785),(iv 262),(cp 786)]),(430,fo (fq "_law_next" Oo m4 (.ref 429))),(436,co #[(.str "_law_deeds" 788),(.str "_law_deeds" 789),(cp 790),(iv 274),(iv 4),(iv 0),(iv 0),(iv 3),(.ref 431),(.bool true),(iv 181),(.ref 432),.none,(.ref 433),(.ref 434),(.ref 435),(iv 800),(iv 274),(cp 801)]),(437,fo (fq "_law_deeds" Oq m4 (.ref 436))),(443,co #[(.str "_law_told" 803),(.str "_law_told" 804),(cp 805),(iv 283),(iv 3),(iv 0),(iv 0),(iv 3),(.ref 438),(.bool true),(iv 181),(.ref 439),.none,(.ref 440),(.ref 441),(.ref 442),(iv 811),(iv 283),(cp 812)]),(444,fo (fq "_law_told" Jz m4 (.ref 443))),(450,co #[(.str "_law_due" 814),(.str "_law_due" 815),(cp 816),(iv 294),(iv 3),(iv 0),(iv 0),(iv 3),(.ref 445),(.bool true),(iv 181),(.ref 446),.none,(.ref 447),(.ref 448),(.ref 449),(iv 823),(iv 294),(cp 824)]),(451,fo (fq "_law_due" Ot m4 (.ref 450))),(457,co #[(.str "_law_right" 826),(.str "_law_right" 827),(cp 828),(iv 304),(iv 3),(iv 0),(iv 0),(iv 3),(.ref 452),(.bool true),(iv 181),(.ref 453),.none,(.ref 454),(.ref 455),(.ref 456),(iv 835),(iv 304),(cp 836)]),(458,fo (fq "_law_right" Ou m4 (.ref 457))),(464,co #[(.str "_law_bent" 838),(.str "_law_bent" 839),(cp 840),(iv 313),(iv 2),(iv 0),(iv 0),(iv 3),(.ref 459),(.bool true),(iv 181),(.ref 460),.none,(.ref 461),(.ref 462),(.ref 463),(iv 848),(iv 313),(cp 849)]),(465,fo (fq "_law_bent" Ov m4 (.ref 464))),(469,co #[(.str "law" 851),(.str "law" 852),(cp 853),(iv 326),(iv 1),(iv 0),(iv 0),(iv 3),(.ref 466),(.bool true),(iv 181),(.ref 467),.none,.none,.none,(.ref 468),(iv 854),(iv 326),(cp 855)]),(470,fo (fq "law" JA m4 (.ref 469))),(24,kl "CutError" 24 23 [(.type "ValueError")] VE [(.ref 44),(.ref 63),(.ref 82),(.ref 101),(.ref 120),(.ref 139),(.ref 158),(.ref 177),(.ref 196),(.ref 215),(.ref 234)] (.ref 15) 189 197),(44,kl "NoForm" 44 43 [(.ref 24)] ((.ref 24)::VE) [] (.ref 28) 207 215),(63,kl "NoDeed" 63 62 [(.ref 24)] ((.ref 24)::VE) [] (.ref 47) 234 242),(82,kl "NoCut" 82 81 [(.ref 24)] ((.ref 24)::VE) [] (.ref 66) 259 267),(101,kl "NoTaking" 101 100 [(.ref 24)] ((.ref 24)::VE) [] (.ref 85) 286 294),(120,kl "NoNumbers" 120 119 [(.ref 24)] ((.ref 24)::VE) [] (.ref 104) 313 321),(139,kl "NoLine" 139 138 [(.ref 24)] ((.ref 24)::VE) [] (.ref 123) 340 348),(158,kl "NoZigzag" 158 157 [(.ref 24)] ((.ref 24)::VE) [] (.ref 142) 369 377),(177,kl "NoWorld" 177 176 [(.ref 24)] ((.ref 24)::VE) [] (.ref 161) 396 404),(196,kl "NoRun" 196 195 [(.ref 24)] ((.ref 24)::VE) [] (.ref 180) 423 431),(215,kl "NoText" 215 214 [(.ref 24)] ((.ref 24)::VE) [] (.ref 199) 448 456),(234,kl "NoRow" 234 233 [(.ref 24)] ((.ref 24)::VE) [] (.ref 218) 473 481),(62,⟨.type "dict",none,.dict #[en P "__module__" 241 (.str "cutstand.errors" 187),en P "__firstlineno__" 245 (.int 9 244),en P "__init__" 253 (.ref 60),en P "__static_attributes__" 255 (.ref 61),en P "__doc__" 256 .none] 2,#[]⟩),(23,⟨.type "dict",none,.dict #[en P "__module__" 196 (.str "cutstand.errors" 187),en P "__firstlineno__" 200 (.int 2 199),en P "__static_attributes__" 201 (.ref 22),en P "__weakref__" 203 (.ref 25),en P "__doc__" 204 .none] 3,#[]⟩),(59,co #[(.str "__init__" 246),(.str "NoDeed.__init__" 247),(cp 248),(iv 11),(iv 2),(iv 0),(iv 0),(iv 3),(.ref 54),(.bool true),(iv 181),(.ref 55),.none,(.ref 56),(.ref 57),(.ref 58),(iv 251),(iv 11),(cp 252)]),(60,fo (PySem.W.fnOf "__init__" "NoDeed.__init__" (fB Am) (cv Am) (aI Am) .none .none .none m5 none (.ref 59) .none))]
noncomputable def ads:List Addr:=[3,242,243,249,250,256,257,263,264,270,271,277,278,284,285,291,292,296,297,303,304,310,311,315,316,322,323,329,330,336,337,343,344,350,351,357,358,364,365,371,372,378,379,383,384,388,389,393,394,400,401,407,408,412,413,419,420,424,425,429,430,436,437,443,444,450,451,457,458,464,465,469,470,24,44,63,82,101,120,139,158,177,196,215,234,62,23,59,60]
def vw:Program:={PySem.Challenge.pw_cutstand_k06_runs with main:={PySem.Challenge.pw_cutstand_k06_runs.main with body:=[cj 1,cj 2,cj 3,cj 4,cj 5,cj 6,cj 7,cj 8,cj 9,cj 10,cj 11,cj 12,cj 14,cj 15,cj 16,cj 18,cj 20,cj 22,cj 23,cj 24,cj 25,cj 26,cj 27,cj 28,cj 29,cj 30,cj 31,cj 33,cj 34,cj 35,cj 36,cj 37,cj 38,cj 39,cj 40,cj 41,cj 42,cj 43,cj 44,cj 45,cj 46,cj 47,cj 48,cj 49,cj 50,cj 51,cj 52,cj 53]}}
def hk:PySem.W.Hook:=PySem.W.kHook Kf ads (λ_=>nofun)
open PySem.W in
theorem Ow{tb:String->Option Builtin}{p:Program}{w:World}{JB:Nat}{TK:Option Value}:∀(n:Nat)(s:Shared)(t:Thread)(r:Flow×Shared×Code×Pos),segRun tb p w JB TK 0 n s t=some r->topRun tb p w JB TK n s t=some r.2.1
 | 0,s,t,r,h=>by rw[segRun.eq_def]at h;cases h
 | n+1,s,t,r,h=>by
  have te:through t=(endAt 0 t).isSome:=by
   unfold through endAt
   cases t.stack with
   | nil =>
    show(true&&_)=_;rw[E1];generalize t.cur=c
    cases c with
    | pure x=>cases x<;>rfl
    | _=>rfl
   | cons x l =>
    show(false&&_)=_;rw[Bool.false_and];rfl
  rw[segRun.eq_def]at h;rw[topRun.eq_def];simp only at h⊢;rw[te]
  cases e:endAt 0 t with
  | some f=>rw[e]at h;cases h;rfl
  | none =>
   rw[e]at h;simp only[Option.isSome_none]at h⊢
   cases k:stepOk JB TK t with
   | false=>rw[k]at h;cases h
   | true =>
    rw[k]at h;simp only at h⊢
    cases q:step (denote tb) p w s t with
    | go s' t'=>rw[q]at h;exact Ow n s' t' r h
    | halt o s=>rw[q]at h;cases h
open PySem.W in
noncomputable def JC(l:List Obj):BT:=(l.foldl (λ(q:BT×Nat) o=>(q.1.ins q.2 o,q.2+1)) (BT.nil,0)).1
open PySem.W in
def Ox(s:Shared):SharedT:=⟨JC s.heap.objs.toList,s.heap.objs.size,s.heap.life,s.gens,s.drawn,s.toks,s.os⟩
open PySem.W in
def Bf(p:Program)(w:World)(N:Nat):Option (Shared×SharedT):=(fencedOpening treeTable p w N).bind λs=>(segRunT treeTable p w s.heap.objs.size (s.heap.nsMap mainGlobals (Str.ofString "__annotations__")) 0 N (Ox s) (topStub p)).map λr=>(s,r.2.1)
open PySem.W in
theorem JD{p q:Program}{Xt:Shared->Bool}{α:Type}{Yf:Shared->α}{Ya:World->α}{N:Nat}(hA:∀w,(Bf p w N).map (λs=>(openSeen q [] (importedModules p.main.body) Xt true s.2.abs,Yf s.2.abs))=some (openGood q [],Ya w))(hB:∀w,(Bf p w N).map (λs=>(s.1.heap.isNs mainGlobals&&s.1.gens.size==0,staticsOk (importedModules p.main.body) s.1.heap s.2.abs.heap&&namesBound p s.2.abs.heap&&gensDone s.2.abs&&laidKept s.1.heap s.2.abs.heap))=some (true,true))(hC:∀w,(fencedOpening treeTable p w N).map (λs=>(Ox s).abs)=fencedOpening treeTable p w N):LeftO p q [] Xt Yf Ya N:=by
 intro w;have hA:=hA w;have hB:=hB w;have hC:=hC w;unfold Bf at hA hB;unfold openEnds
 cases hO:fencedOpening treeTable p w N with
 | none=>rw[hO]at hA;cases hA
 | some s =>
  rw[hO]at hA hB hC;have hC:(Ox s).abs=s:=cR hC;simp only[Option.bind_some]at hA hB⊢
  cases hR:segRunT treeTable p w s.heap.objs.size (s.heap.nsMap mainGlobals (Str.ofString "__annotations__")) 0 N (Ox s) (topStub p)with
  | none=>rw[hR]at hA;cases hA
  | some r =>
   obtain⟨f,sT,c,q⟩:=r;rw[hR]at hA hB;have h1:=segRun_of hR;rw[hC]at h1;have h2:=Ow _ _ _ _ h1;simp only[vv,sO,E2]at hA hB;unfold topFrom;rw[hB.1];simp only[h2,Option.bind_some];rw[hB.2];simp only[vv,hA.1,hA.2]
theorem Yu:∀w,(Bf PySem.Challenge.pw_cutstand_k06_runs w 8274).map (λs=>(PySem.W.openSeen vw [] (importedModules PySem.Challenge.pw_cutstand_k06_runs.main.body) (λs=>PySem.W.xlAt vw [] s&&PySem.W.recOk [] s) true s.2.abs,PySem.W.Hook.obs hk s.2.abs))=some (PySem.W.openGood vw [],PySem.W.Hook.val hk w):=by
 intro w
 kernel_rfl
theorem Yv:∀w,(Bf PySem.Challenge.pw_cutstand_k06_runs w 8274).map (λs=>(s.1.heap.isNs mainGlobals&&s.1.gens.size==0,PySem.W.staticsOk (importedModules PySem.Challenge.pw_cutstand_k06_runs.main.body) s.1.heap s.2.abs.heap&&PySem.W.namesBound PySem.Challenge.pw_cutstand_k06_runs s.2.abs.heap&&PySem.W.gensDone s.2.abs&&PySem.W.laidKept s.1.heap s.2.abs.heap))=some (true,true):=by
 intro w
 kernel_rfl
theorem Yw:∀w,(PySem.W.fencedOpening treeTable PySem.Challenge.pw_cutstand_k06_runs w 8274).map (λs=>(Ox s).abs)=PySem.W.fencedOpening treeTable PySem.Challenge.pw_cutstand_k06_runs w 8274:=by
 intro w
 kernel_rfl
theorem Yx:PySem.W.LeftO PySem.Challenge.pw_cutstand_k06_runs vw [] (λs=>PySem.W.xlAt vw [] s&&PySem.W.recOk [] s) (PySem.W.Hook.obs hk) (PySem.W.Hook.val hk) 8274:=JD Yu Yv Yw
end dB
end
section
namespace L2
open PySem PySem.Spec PyProof.Rows
abbrev bD:=Sum Int Str
noncomputable def g8:bD->Value->Bool
 | .inl k,v=>Value.isInt k v
 | .inr x,v=>Value.isStrOf x v
noncomputable def TL(w:World):bD->Int
 | .inl k=>hashInt k
 | .inr x=>hashStr w x
theorem b_:∀{k:bD}{v:Value},g8 k v=true->(∃i t,k=Sum.inl i/\v=Value.int i t)\/(∃x t,k=Sum.inr x/\v=Value.str x t)
 | .inl i,v,h=>by
  obtain⟨t,e⟩:=Value.isInt_shape (k:=i) (v:=v) h;exact .inl ⟨i,t,rfl,e⟩
 | .inr x,v,h=>by
  obtain⟨t,e⟩:=Value.isStrOf_shape (x:=x) (v:=v) h;exact .inr ⟨x,t,rfl,e⟩
theorem pb(i:Int)(t:Tok):g8 (.inl i) (.int i t)=true:=by simp[g8,Value.isInt]
theorem pd(x:Str)(t:Tok):g8 (.inr x) (.str x t)=true:=by simp[g8,Value.isStrOf]
theorem Bg(a b:Int):decide ((Sum.inl a:bD)=Sum.inl b)=(a==b):=by
 by_cases e:a=b
 ·subst e;simp
 ·have h:¬(Sum.inl a:bD)=Sum.inl b:=λq=>e (Sum.inl.inj q);rw[eU h];exact(oJ.mpr e).symm
theorem JE(a b:Str):decide ((Sum.inr a:bD)=Sum.inr b)=decide (a=b):=by
 by_cases e:a=b
 ·subst e;simp
 ·have h:¬(Sum.inr a:bD)=Sum.inr b:=λq=>e (Sum.inr.inj q);rw[eU h,eU e]
theorem JF(a:Int)(b:Str):decide ((Sum.inl a:bD)=Sum.inr b)=false:=eU (λq=>nomatch q)
theorem JG(a:Str)(b:Int):decide ((Sum.inr a:bD)=Sum.inl b)=false:=eU (λq=>nomatch q)
def bA(prog:Program)(w:World):PySem.KeyKind prog w bD where
 is:=g8
 hash:=TL w
 inj:=λv a b ha hb=>by
  rcases b_ ha with⟨i,t,rfl,rfl⟩|⟨x,t,rfl,rfl⟩
  ·rcases b_ hb with⟨j,u,rfl,e⟩|⟨y,u,rfl,e⟩
   ·injection e with e1 _;rw[e1]
   ·exact nomatch e
  ·rcases b_ hb with⟨j,u,rfl,e⟩|⟨y,u,rfl,e⟩
   ·exact nomatch e
   ·injection e with e1 _;rw[e1]
 byValue:=λk v h=>by
  rcases b_ h with⟨i,t,rfl,rfl⟩|⟨x,t,rfl,rfl⟩<;>rfl
 pyHash:=λhv h=>by
  rcases b_ hv with⟨i,t,rfl,rfl⟩|⟨x,t,rfl,rfl⟩
  ·exact wpAny_pyHash_int h
  ·exact wpAny_pyHash_str h
 eqBool:=λhu hv h=>by
  rcases b_ hu with⟨i,t,rfl,rfl⟩|⟨x,t,rfl,rfl⟩
  ·rcases b_ hv with⟨j,u,rfl,rfl⟩|⟨y,u,rfl,rfl⟩
   ·rw[Bg]at h;exact wpAny_eqBool_int h
   ·rw[JF]at h;exact SeqAt.EqAt.int_str i t y u _ _ _ _ h
  ·rcases b_ hv with⟨j,u,rfl,rfl⟩|⟨y,u,rfl,rfl⟩
   ·rw[JG]at h;exact SeqAt.EqAt.str_int x t j u _ _ _ _ h
   ·rw[JE]at h;exact wpAny_eqBool_str h
 «strs»:=λk x t v h=>by
  rcases b_ h with⟨i,u,rfl,e⟩|⟨y,u,rfl,e⟩
  ·exact nomatch e
  ·injection e with e1 _;subst e1;cases v<;>rfl
theorem sU(prog:Program)(w:World)(i:Int)(t:Tok):(bA prog w).is (.inl i) (.int i t)=true:=pb i t
theorem sV(prog:Program)(w:World)(x:Str)(t:Tok):(bA prog w).is (.inr x) (.str x t)=true:=pd x t
inductive V where
 | aL | bl (b:Bool) | int (i:Int) | str (x:Str) | JH (b:Array UInt8) | HN (b:UInt64) | ref (a:Addr) | ty (n:String)
 deriving DecidableEq
noncomputable def RelV:V->Value->Prop
 | .aL,u=>u=Value.none
 | .bl b,u=>u=Value.bool b
 | .int i,u=>∃t,u=Value.int i t
 | .str x,u=>∃t,u=Value.str x t
 | .JH b,u=>∃t,u=Value.bytes b t
 | .HN b,u=>∃t,u=Value.float b t
 | .ref a,u=>u=Value.ref a
 | .ty n,u=>u=Value.type n
abbrev aQ:List V->List Value->Prop:=Paired RelV
theorem aQ.length{xs:List V}{us:List Value}(r:aQ xs us):xs.length=us.length:=AY r
theorem aQ.get:∀{xs:List V}{us:List Value}{i:Nat}{x:V},aQ xs us->xs[i]?=some x->∃u,us[i]?=some u/\RelV x u
 | _,_,_,_,.nil,e=>by simp at e
 | _,_,0,_,.cons r _,e=>by simp at e;subst e;exact⟨_,rfl,r⟩
 | _,_,i+1,x,.cons _ t,e=>by
  obtain⟨u,h1,h2⟩:=aQ.get (i:=i) (x:=x) t (by simpa using e);exact⟨u,by simpa using h1,h2⟩
theorem aQ.set{x:V}{u:Value}(r:RelV x u):∀{xs:List V}{us:List Value}(i:Nat),aQ xs us->aQ (xs.set i x) (us.set i u)
 | _,_,_,.nil=>.nil
 | _,_,0,.cons _ t=>.cons r t
 | _,_,i+1,.cons q t=>.cons q (aQ.set r i t)
theorem aQ.append:∀{xs ys:List V}{us ws:List Value},aQ xs us->aQ ys ws->aQ (xs++ys) (us++ws)
 | _,_,_,_,.nil,s=>s
 | _,_,_,_,.cons r t,s=>.cons r (aQ.append t s)
theorem aQ.take:∀{xs:List V}{us:List Value}(n:Nat),aQ xs us->aQ (xs.take n) (us.take n)
 | _,_,0,_=>.nil
 | _,_,_+1,.nil=>.nil
 | _,_,n+1,.cons r t=>.cons r (aQ.take n t)
theorem aQ.drop:∀{xs:List V}{us:List Value}(n:Nat),aQ xs us->aQ (xs.drop n) (us.drop n)
 | _,_,0,r=>r
 | _,_,_+1,.nil=>.nil
 | _,_,n+1,.cons _ t=>aQ.drop n t
theorem aQ.none_of:∀{xs:List V}{us:List Value}{i:Nat},aQ xs us->xs[i]?=none->us[i]?=none:=λ{xs us i} r e=>by
 have h1:=r.length;have h2:xs.length<=i:=vh.mp e;exact vh.mpr ∅
def g9:Option V->Option Value->Prop
 | some v,some u=>RelV v u
 | none,none=>True
 | _,_=>False
def KV{κ:Type}:List (κ×V)->List (κ×Value)->Prop:=Paired λ(p:κ×V) (q:κ×Value)=>p.1=q.1/\RelV p.2 q.2
def kV:bD->V
 | .inl i=>.int i
 | .inr x=>.str x
inductive HO where
 | lst (xs:List V)
 | tup (xs:List V)
 | dK (au:List (bD×V)) | dT (au:List (List bD×V))
 | set (S:Int->Bool) (n:Nat)
 | ins (C dx:Addr) (fs:List (Str×V))
 | own (x:Addr)
 | xd (fs:List (Str×V))
 | met (f x:Addr)
 | lB (lo hi:Int)
 | gW (o:Obj) (u:HO)
 | JI (ps:Array Value)
 | ext (φ:Heap->Prop)
abbrev Hp:=Addr->Option HO
noncomputable def bu(H:Hp)(a:Addr)(o:HO):Hp:=λb=>if b=a then some o else H b
theorem aS{H:Hp}{a:Addr}{o:HO}:bu H a o a=some o:=by unfold bu;rw[aF rfl]
theorem aq{H:Hp}{a b:Addr}{o:HO}(h:b≠a):bu H a o b=H b:=by unfold bu;rw[aP h]
theorem Oy{H:Hp}{a b:Addr}{o u:HO}(h:H a=some o)(h':H b=some u)(d:o≠u):a≠b:=by
 intro e;subst e;rw[h]at h';exact d (cR h')
theorem cE{H:Hp}{a b:Addr}{o:HO}(h:H a=some o)(h':H b=none):a≠b:=by
 intro e;subst e;rw[h]at h';cases h'
section
variable (P:Program) (w:World)
def bL(H:Hp)(h:Heap)(a:Addr):HO->Prop
  | .lst xs=>xs.length<=sizeLine/\∃(aA:List Value) (n:Nat),aQ xs aA/\h.get? a=some {cls:=.type "list",data:=.seq aA.toArray n}
  | .tup xs=>xs.length<=sizeLine/\∃aA:List Value,aQ xs aA/\IsTup h a aA.toArray
  | .dK au=>au.length<=sizeLine/\(a==sysModules)=false/\∃vs,KV au vs/\h.DictOf (bA P w) a vs
  | .dT au => au.length <= sizeLine /\ (a == sysModules) = false /\ ∃ xs : List (List bD × Addr × Value),
      Paired (λ(p:List bD×V) (q:List bD×Addr×Value)=>p.1=q.1/\H q.2.1=some (.tup (p.1.map kV))/\RelV p.2 q.2.2) au xs /\
      ∃o es ep,h.get? a=some o/\o.ExactDict/\o.data=.dict es ep/\es.toList=xs.map (entryOfKey (tupleKind (bA P w)))/\(xs.map (·.1)).Nodup
  | .set S n=>h.SetOf (intKind P w) a S n
  | .ins C dx fs => H dx = some (.own a) /\ fs.length <= 1000 /\ dx ≠ a /\ h.get? a = some (PySem.W.instObj C dx) /\
      ∃mA,h.Ns1 dx mA/\(∀f,g9 (fs.lookup f) (mA f))/\PySem.Within mA (fs.map (·.1))
  | .own _=>∃o,h.get? a=some o
  | .xd fs=>∃mA,h.Ns1 a mA/\∀f,g9 (fs.lookup f) (mA f)
  | .lB lo hi=>∃t u v,h.get? a=some {cls:=.type "range",data:=.fields #[.int lo t,.int hi u,.int 1 v]}
  | .gW o u=>h.get? a=some o/\bL H h a u
  | .JI ps=>h.get? a=some {cls:=.none,data:=.fields ps}
  | .met f x=>h.get? a=some (PySem.W.methodObj (.ref f) (.ref x))
  | .ext φ=>φ h/\(∃o,h.get? a=some o)/\∀h1 h2:Heap,φ h1->(∀o,h1.get? a=some o->h2.get? a=some o)->φ h2
def iJ(H:Hp)(h:Heap):Prop:=∀a o,H a=some o->bL P w H h a o
end
section
variable {P:Program} {w:World} {H H':Hp} {h h':Heap} {a:Addr} {o:HO}
theorem bL.lt(x:bL P w H h a o):a<h.objs.size:=by
 cases o with
 | lst xs=>obtain⟨_,_,_,_,e⟩:=x;exact bP e
 | tup xs=>obtain⟨_,_,_,p⟩:=x;exact p.lt
 | dK au=>obtain⟨_,_,_,_,o,_,_,e,_⟩:=x;exact bP e
 | dT au=>obtain⟨_,_,_,_,o,_,_,e,_⟩:=x;exact bP e
 | set S n=>obtain⟨o,_,_,_,e,_⟩:=x;exact bP e
 | ins C dx fs=>obtain⟨_,_,_,e,_⟩:=x;exact bP e
 | own y=>obtain⟨_,e⟩:=x;exact bP e
 | xd fs=>obtain⟨_,⟨_,_,_,e,_⟩,_⟩:=x;exact bP e
 | lB lo hi=>obtain⟨_,_,_,e⟩:=x;exact bP e
 | gW ob u=>obtain⟨e,_⟩:=x;exact bP e
 | JI ps=>exact bP (show h.get? a=some _ from x)
 | met f y=>exact bP (show h.get? a=some _ from x)
 | ext φ=>obtain⟨_,⟨_,e⟩,_⟩:=x;exact bP e
theorem Paired.JJ{α β:Type}{F G:α->β->Prop}:∀{Oz:List α}{OA:List β},Paired F Oz OA->(∀a b,F a b->G a b)->Paired G Oz OA
 | _,_,.nil,_=>.nil
 | _,_,.cons r t,f=>.cons (f _ _ r) (Paired.JJ t f)
theorem bL.qm(x:bL P w H h a o)(k:∀b u,(b=a\/H b=some (.own a))->h.get? b=some u->h'.get? b=some u)(ho:∀b,H b=some (.own a)->H' b=some (.own a))(ht:∀b xs,H b=some (.tup xs)->H' b=some (.tup xs)):bL P w H' h' a o:=by
 induction o with
 | lst xs=>obtain⟨z,aA,n,r,e⟩:=x;exact⟨z,aA,n,r,k _ _ (.inl rfl) e⟩
 | tup xs=>obtain⟨z,aA,r,ob,e,c⟩:=x;exact⟨z,aA,r,ob,k _ _ (.inl rfl) e,c⟩
 | dK au=>obtain⟨z,y,vs,r,ob,es,ep,e,c⟩:=x;exact⟨z,y,vs,r,ob,es,ep,k _ _ (.inl rfl) e,c⟩
 | dT au =>
  obtain⟨z,y,xs,r,ob,es,ep,e,c⟩:=x;exact⟨z,y,xs,Paired.JJ r λp q z=>⟨z.1,ht _ _ z.2.1,z.2.2⟩,ob,es,ep,k _ _ (.inl rfl) e,c⟩
 | set S n=>obtain⟨ob,es,ep,t,e,c⟩:=x;exact⟨ob,es,ep,t,k _ _ (.inl rfl) e,c⟩
 | ins C dx fs =>
  obtain⟨d,z,ne,e,mA,⟨od,es,ep,e2,c⟩,r⟩:=x;exact⟨ho _ d,z,ne,k _ _ (.inl rfl) e,mA,⟨od,es,ep,k _ _ (.inr d) e2,c⟩,r⟩
 | own y=>obtain⟨ob,e⟩:=x;exact⟨ob,k _ _ (.inl rfl) e⟩
 | xd fs=>obtain⟨mA,⟨od,es,ep,e,c⟩,r⟩:=x;exact⟨mA,⟨od,es,ep,k _ _ (.inl rfl) e,c⟩,r⟩
 | lB lo hi=>obtain⟨t,u,v,e⟩:=x;exact⟨t,u,v,k _ _ (.inl rfl) e⟩
 | gW ob u ih=>obtain⟨e,q⟩:=x;exact⟨k _ _ (.inl rfl) e,ih q⟩
 | JI ps =>
  have e:h.get? a=some {cls:=.none,data:=.fields ps}:=x;show h'.get? a=some {cls:=.none,data:=.fields ps};exact k a _ (.inl rfl) e
 | met f y =>
  have e:h.get? a=some (PySem.W.methodObj (.ref f) (.ref y)):=x;show h'.get? a=some (PySem.W.methodObj (.ref f) (.ref y));exact k a _ (.inl rfl) e
 | ext φ=>obtain⟨p,⟨o,e⟩,st⟩:=x;exact⟨st _ _ p λo q=>k _ _ (.inl rfl) q,⟨o,k _ _ (.inl rfl) e⟩,st⟩
theorem iJ.lt(x:iJ P w H h)(e:H a=some o):a<h.objs.size:=(x a o e).lt
theorem iJ.fresh(x:iJ P w H h)(e:h.objs.size<=a):H a=none:=by
 cases q:H a with
 | none=>rfl
 | some u=>exact absurd (fH (x.lt q) e) (jF _)
theorem iJ.kept(x:iJ P w H h)(k:∀b u,h.get? b=some u->h'.get? b=some u):iJ P w H h':=λa o e =>
 (x a o e).qm (λb u _ q=>k b u q) (λ_ q=>q) λ_ _ q=>q
theorem iJ.laid(x:iJ P w H h)(k:∀b u,h.get? b=some u->h'.get? b=some u)(hp:h.objs.size<=a)(new:bL P w (bu H a o) h' a o):iJ P w (bu H a o) h':=λb u e=>by
 have hn:=x.fresh hp;by_cases hb:b=a
 ·subst hb;rw[aS]at e;cases e;exact new
 ·rw[aq hb]at e;exact(x b u e).qm (λc v _ q=>k c v q) (λc q=>by rw[aq (cE q hn)];exact q) λc xs q=>by rw[aq (cE q hn)];exact q
end
noncomputable def Rd(H:Hp)(a:Addr)(u:HO):Prop:=H a=some u\/∃o,H a=some (.gW o u)
theorem Rd.of{H:Hp}{a:Addr}{u:HO}(h:H a=some u):Rd H a u:=.inl h
theorem Rd.ok{P:Program}{w:World}{H:Hp}{h:Heap}{a:Addr}{u:HO}(r:Rd H a u)(x:iJ P w H h):bL P w H h a u:=by
 rcases r with r | ⟨o,r⟩
 ·exact x a u r
 ·obtain⟨_,q⟩:=x a _ r;exact q
noncomputable def OB:Option HO->Prop
 | some (.lst _)=>True
 | some (.dK _)=>True
 | some (.dT _)=>True
 | some (.set _ _)=>True
 | some (.ins _ _ _)=>True
 | some (.ext _)=>True
 | _=>False
section
variable {P:Program} {w:World} {H:Hp} {h h':Heap} {x e:Addr} {o':HO}
theorem iJ.write(ok:iJ P w H h)(mu:OB (H x))(he:e=x\/H e=some (.own x))(k:∀b u,b≠e->h.get? b=some u->h'.get? b=some u)(Nx:∃u,h'.get? e=some u)(new:bL P w (bu H x o') h' x o'):iJ P w (bu H x o') h':=λb u q=>by
 have OC:∀c y,H c=some (.own y)->c≠x:=λc y r z=>by subst z;rw[r]at mu;exact mu
 have TM:∀c xs,H c=some (.tup xs)->c≠x:=λc xs r z=>by subst z;rw[r]at mu;exact mu
 by_cases hb:b=x
 ·subst hb;rw[aS]at q;cases q;exact new
 ·rw[aq hb]at q;by_cases JK:b=e
  ·have q':H b=some (.own x):=by
    rcases he with z | z
    ·exact absurd (JK.trans z) hb
    ·rw[JK];exact z
   rw[q]at q';cases q';obtain⟨v,hv⟩:=Nx;exact⟨v,by rw[JK];exact hv⟩
  ·refine(ok b u q).qm (λc v hc r=>k c v ?_ r) (λc r=>by rw[aq (OC c b r)];exact r) λc xs r=>by rw[aq (TM c xs r)];exact r
   rcases hc with rfl | hc
   ·exact JK
   ·rintro rfl;rcases he with z | z
    ·exact OC c b hc z
    ·rw[hc]at z;cases z;exact hb rfl
end
structure Un (fs ex:List Addr) (H H':Hp) (h h':Heap):Prop where
 keep:∀b o,h.get? b=some o->H b=none->b∉fs->b∉ex->h'.get? b=some o
 slot:∀b o,h.get? b=some o->H b=none->b∈fs->b∉ex->∃sl,h'.get? b=some {o with slots:=sl}
 free:∀b o,h.get? b=some o->H b=none->b∉ex->H' b=none
 there:∀b o,h.get? b=some o->b∉ex->∃o',h'.get? b=some o'
 eW:∀b xs,H b=some (.tup xs)->H' b=some (.tup xs)
 jG:∀b o u,H b=some (.gW o u)->H' b=some (.gW o u)
 kK:∀b ps,H b=some (.JI ps)->∃more,H' b=some (.JI (ps++more))
section
variable {fs TN ex Wx:List Addr} {H H1 H2:Hp} {h h1 h2 h':Heap} {a x e:Addr} {o:HO}
theorem Un.any(u:Un fs ex H H1 h h1){b:Addr}{ob:Obj}(q:h.get? b=some ob)(n:H b=none)(hx:b∉ex):∃sl,h1.get? b=some {ob with slots:=sl}:=by
 by_cases hb:b∈fs
 ·exact u.slot b ob q n hb hx
 ·exact⟨ob.slots,u.keep b ob q n hb hx⟩
theorem Un.trans(a:Un fs ex H H1 h h1)(b:Un fs ex H1 H2 h1 h2):Un fs ex H H2 h h2 where
 keep:=λc ob q n hc hx=>b.keep c ob (a.keep c ob q n hc hx) (a.free c ob q n hx) hc hx
 slot:=λc ob q n hc hx=>by
  obtain⟨sl,e1⟩:=a.slot c ob q n hc hx;obtain⟨OD,e2⟩:=b.slot c _ e1 (a.free c ob q n hx) hc hx;exact⟨OD,e2⟩
 free:=λc ob q n hx=>by
  obtain⟨o',e1⟩:=a.there c ob q hx;exact b.free c o' e1 (a.free c ob q n hx) hx
 there:=λc ob q hx=>by
  obtain⟨o',e1⟩:=a.there c ob q hx;exact b.there c o' e1 hx
 eW:=λc xs q=>b.eW c xs (a.eW c xs q)
 jG:=λc ob xs q=>b.jG c ob xs (a.jG c ob xs q)
 kK:=λc ps q=>by
  obtain⟨m1,e1⟩:=a.kK c ps q;obtain⟨m2,e2⟩:=b.kK c _ e1;exact⟨m1++m2,by rw[e2,Array.append_assoc]⟩
theorem Un.kept(k:∀b u,h.get? b=some u->h'.get? b=some u):Un fs ex H H h h' :=
 ⟨λb ob q _ _ _=>k b ob q,λb ob q _ _ _=>⟨ob.slots,k b ob q⟩,λ_ _ _ n _=>n,λb ob q _=>⟨ob,k b ob q⟩,λ_ _ q=>q,λ_ _ _ q=>q,λ_ ps q=>⟨#[],by rw[q];simp⟩⟩
theorem Un.refl:Un fs ex H H h h:=Un.kept λ_ _ q=>q
theorem Un.laid(k:∀b u,h.get? b=some u->h'.get? b=some u)(hp:h.objs.size<=a)(hn:H a=none):Un fs ex H (bu H a o) h h' where
 keep:=λb u q _ _ _=>k b u q
 slot:=λb u q _ _ _=>⟨u.slots,k b u q⟩
 free:=λb u q n _=>by rw[aq (eK (fH (bP q) hp))];exact n
 there:=λb u q _=>⟨u,k b u q⟩
 eW:=λb xs q=>by rw[aq (cE q hn)];exact q
 jG:=λb u xs q=>by rw[aq (cE q hn)];exact q
 kK:=λb ps q=>⟨#[],by rw[aq (cE q hn),q];simp⟩
theorem Un.write(mu:OB (H x))(he:e=x\/H e=some (.own x))(k:∀b u,b≠e->h.get? b=some u->h'.get? b=some u)(Nx:∃u,h'.get? e=some u):Un fs ex H (bu H x o) h h':=by
 have hx:∀b,H b=none->b≠x:=λb n z=>by subst z;rw[n]at mu;exact mu
 have hb:∀b,H b=none->b≠e:=λb n z=>by
  subst z;rcases he with r | r
  ·exact hx b n r
  ·rw[n]at r;cases r
 have hm:∀b u,H b=some u->¬OB (some u)->b≠x:=λb u q nm z=>by subst z;rw[q]at mu;exact nm mu
 refine⟨λb u q n _ _=>k b u (hb b n) q,λb u q n _ _=>⟨u.slots,k b u (hb b n) q⟩,λb u q n _=>by rw[aq (hx b n)];exact n,λb u q _=>?_,
  λb xs q=>by rw[aq (hm b _ q λz=>z)];exact q,λb u xs q=>by rw[aq (hm b _ q λz=>z)];exact q,λb ps q=>⟨#[],by rw[aq (hm b _ q λz=>z),q];simp⟩⟩
 by_cases JK:b=e
 ·subst JK;exact Nx
 ·exact⟨u,k b u JK q⟩
theorem Un.mono(u:Un fs ex H H1 h h1)(hs:∀b∈fs,b∈TN)(hx:∀b∈ex,b∈Wx):Un TN Wx H H1 h h1 :=
 ⟨λb ob q n hb he=>u.keep b ob q n (λz=>hb (hs b z)) λz=>he (hx b z),λ_ _ q n _ he=>u.any q n λz=>he (hx _ z),λb ob q n he=>u.free b ob q n λz=>he (hx b z),λb ob q he=>u.there b ob q λz=>he (hx b z),u.eW,u.jG,u.kK⟩
end
noncomputable def RV(h:Heap)(H:Hp):List Addr:=(List.range h.objs.size).filter λa=>(H a).isSome
def qo(h:Heap)(H:Hp):Heap:=PySem.W.hideAll h (RV h H)
theorem y8(h:Heap)(H:Hp):(qo h H).objs.size=h.objs.size:=PySem.W.hideAll_size _ _
theorem Bh{h:Heap}{H:Hp}{b:Addr}{o:Obj}(e:h.get? b=some o)(n:H b=none):(qo h H).get? b=some o :=
 PySem.W.hideAll_get _ e λhm=>by
  have q:(H b).isSome=true:=(yY.mp hm).2;rw[n]at q;simp at q
theorem E3{h:Heap}{H:Hp}{b:Addr}{o:Obj}(e:(qo h H).get? b=some o):h.get? b=some o/\H b=none:=by
 have e':h.get? b=some o:=PySem.W.of_hideAll (RV h H) e;refine⟨e',?_⟩
 cases q:H b with
 | none=>rfl
 | some x =>
  have hm:b∈RV h H:=yY.mpr ⟨List.mem_range.mpr (bP e'),by simp[q]⟩;have z:(qo h H).get? b=none:=PySem.W.hideAll_none (RV h H) hm;rw[z]at e;cases e
noncomputable def E4(g h:Heap)(L:Addr):List (Addr×Obj):=(List.range h.objs.size).filterMap λa=>if a=L\/(g.get? a).isSome=true then none else (h.get? a).map λo=>(a,o)
def eA(g h:Heap)(L d:Addr):List (Addr×Obj):=(E4 g h L).filter λp=>decide (p.1≠d)
structure Mod (K:Frag) (mg:Str->Option Value) (base:Heap):Prop where
 Ny:K.In base
 glob:base.Ns mainGlobals mg
 blt:∃mb,base.Ns builtinsNs mb/\∀x:Str,x≠ "__name__" -> mb x=bootBuiltins x
 nolimit:base.NoLimit
structure Cx where
 prog:Program
 w:World
 K:Frag
 mg:Str->Option Value
 base:Heap
 A:Around
 N:List Str
 dU:Shared
 mM:Hp
 env:Env
 outer:List Env
 stack:List Env
 ex:List Addr
 fn:Str->Bool
 calm:Bool
 pn:List (Addr×Obj)
 xe:Value->Shared->Prop
def y9(l:List Env):List Addr:=l.filterMap (·.frame)
abbrev Cx.fs(X:Cx):List Addr:=y9 X.outer
noncomputable def OE(sc:Scope)(x:Str):Prop:=sc.names.lookup x=some .local\/sc.names.lookup x=some .cell\/sc.names.lookup x=some .free
noncomputable def Loc(sc:Scope)(x:Str):Prop:=sc.names.lookup x=some .local\/sc.names.lookup x=some .cell
noncomputable def Look(env:Env)(h:Heap)(m:Str->Option Value)(x:Str)(u:Value):Prop :=
 (env.kindOf x=some .local/\m x=some u)\/((env.kindOf x=some .cell\/env.kindOf x=some .free)/\∃c,env.cells.lookup x=some c/\h.IsCell c (some u))
structure Cx.Ok (X:Cx):Prop where
 mod:Mod X.K X.mg X.base
 kind:X.env.scope.kind=.function
 glob:X.env.globals=mainGlobals
 blt:X.env.builtins=builtinsNs
 above:X.dU.heap.objs.size<=X.env.locals
 inj:∀x y c,X.env.cells.lookup x=some c->X.env.cells.lookup y=some c->x=y
 has:∀x,(X.env.kindOf x=some .cell\/X.env.kindOf x=some .free)->∃c,X.env.cells.lookup x=some c
 HP:∀x c,X.fn x=true->X.env.cells.lookup x=some c->X.dU.heap.objs.size<=c
 hd:X.calm=true->X.A.handled=none
 frames:X.A.frames=some X.stack
 xv:X.stack=X.outer\/(X.stack=X.env::X.outer/\X.env.frame=some X.env.locals)
 RX:∀b∈X.ex,b≠X.env.locals/\∀x c,X.env.cells.lookup x=some c->c≠b
 bs:∀b o,X.base.get? b=some o->X.dU.heap.get? b=some o/\X.mM b=none
 An:X.base.objs.size<=X.dU.heap.objs.size
 y_:∀b o,X.base.get? b=some o->b∉X.ex
 zc:∀b∈X.ex,b∉X.fs
 jH:X.dU.heap.FunFrames X.base X.outer
 E5:∀b∈X.fs,X.mM b=none
structure Inv (X:Cx) (ae:List (Addr×Obj)) (σ:List (Option V)) (H:Hp) (s:Shared):Prop where
 ok:X.Ok
 os:s.os=X.dU.os
 bare:AllBare s.gens
 base:Un X.fs X.ex X.mM H X.dU.heap s.heap
 loc:∃m,s.heap.Ns X.env.locals m/\∀(i:Nat)(x:Str)(v:V),X.N[i]?=some x->σ[i]?=some (some v)->OE X.env.scope x->∃u,RelV v u/\Look X.env s.heap m x u
 cell:∀x c,X.env.cells.lookup x=some c->∃v,s.heap.IsCell c v
 free:H X.env.locals=none
 fY:∀x c,X.env.cells.lookup x=some c->H c=none
 pin:∀p∈X.pn++ae,s.heap.get? p.1=some p.2/\H p.1=none/\p.1≠X.env.locals/\p.1∉X.fs/\∀v,p.2.data≠.cell v
 bw:iJ X.prog X.w H s.heap
 len:σ.length=X.N.length
section
variable {X:Cx} {ae:List (Addr×Obj)} {σ:List (Option V)} {H H':Hp} {s:Shared} {h':Heap}
theorem Cx.Ok.TQ(ok:X.Ok){b:Addr}{o:Obj}(e:X.base.get? b=some o):b∉X.fs:=λhb=>by
 have:=(ok.jH.mem hb).1;rw[e]at this;cases this
theorem Inv.bs(I:Inv X ae σ H s):∀b o,X.base.get? b=some o->s.heap.get? b=some o/\H b=none:=λb o e =>
 ⟨I.base.keep b o (I.ok.bs b o e).1 (I.ok.bs b o e).2 (I.ok.TQ e) (I.ok.y_ b o e),I.base.free b o (I.ok.bs b o e).1 (I.ok.bs b o e).2 (I.ok.y_ b o e)⟩
theorem Inv.bk(I:Inv X ae σ H s):∀b o,X.base.get? b=some o->s.heap.get? b=some o:=λb o e=>(I.bs b o e).1
theorem Inv.mod(I:Inv X ae σ H s):Mod X.K X.mg X.base:=I.ok.mod
theorem Inv.kB(I:Inv X ae σ H s):X.K.In s.heap:=I.ok.mod.Ny.keeps I.bk
theorem Inv.nolimit(I:Inv X ae σ H s):s.heap.NoLimit:=I.ok.mod.nolimit.keeps I.bk
theorem Inv.fr(I:Inv X ae σ H s):∃m,Fr X.base X.env.locals s.heap m :=
 let ⟨m,hn,_⟩:=I.loc
 ⟨m,hn,I.bk,bJ I.ok.An I.ok.above⟩
theorem Inv.lt(I:Inv X ae σ H s):X.env.locals<s.heap.objs.size:=let ⟨_,hn,_⟩:=I.loc;hn.lt
theorem Inv.sz(I:Inv X ae σ H s):X.dU.heap.objs.size<=s.heap.objs.size:=bJ I.ok.above (kJ I.lt)
theorem Inv.OF(I:Inv X ae σ H s){a:Addr}(h:s.heap.objs.size<=a):a∉X.fs:=λhb=>by
 obtain⟨_,o,ho,_⟩:=I.ok.jH.mem hb;exact absurd (fH (bP ho) (bJ I.sz h)) (jF _)
theorem Inv.E6(I:Inv X ae σ H s):∀x c,X.env.cells.lookup x=some c->c≠X.env.locals:=λx c e z=>by
 obtain⟨v,o,ho,hd⟩:=I.cell x c e;obtain⟨m,⟨o',es,ep,xx,JL,_⟩,_⟩:=I.loc;rw[z,xx]at ho;cases ho;rw[JL]at hd;cases hd
theorem Inv.jH(I:Inv X ae σ H s):s.heap.FunFrames X.base X.outer:=by
 have all:∀(l:List Env),(∀b∈y9 l,b∈X.fs)->X.dU.heap.FunFrames X.base l->s.heap.FunFrames X.base l:=by
  intro l
  induction l with
  | nil=>intro _ _;trivial
  | cons env r ih =>
   intro hs hl;obtain⟨hk,⟨L,o,hf,hn,ho,hd⟩,hr⟩:=hl;have hL:L∈X.fs:=hs L (by unfold y9;rw[jD,hf];exact ez);obtain⟨sl,e⟩:=I.base.slot L o ho (I.ok.E5 L hL) hL λz=>I.ok.zc L z hL;exact⟨hk,⟨L,_,hf,hn,e,hd⟩,ih (λb hb=>hs b (by unfold y9;rw[jD,hf];exact dP _ hb)) hr⟩
 exact all X.outer (λ_ hb=>hb) I.ok.jH
theorem Inv.stack(I:Inv X ae σ H s):s.heap.FunFrames X.base X.stack:=by
 rcases I.ok.xv with e | ⟨e,hf⟩
 ·rw[e];exact I.jH
 ·rw[e];obtain⟨m,hn,_⟩:=I.loc;refine .cons (by rw[I.ok.kind];decide) hf hn ?_ I.jH;exact Js (bJ I.ok.An I.ok.above)
theorem Inv.qq(I:Inv X ae σ H s):∀b∈y9 X.stack,b∈X.env.locals::X.fs:=λb hb=>by
 rcases I.ok.xv with e | ⟨e,hf⟩
 ·rw[e]at hb;exact dP _ hb
 ·rw[e]at hb;unfold y9 at hb;rw[jD,hf]at hb;exact hb
theorem Inv.qr(I:Inv X ae σ H s):∀b∈y9 X.stack,H b=none:=λb hb=>by
 rcases bT.mp (I.qq b hb)with e | hb
 ·rw[e];exact I.free
 ·obtain⟨_,o,ho,_⟩:=I.ok.jH.mem hb;exact I.base.free b o ho (I.ok.E5 b hb) λz=>I.ok.zc b z hb
theorem Inv.step{g':Array GenState}{t':Nat}{d':Drawn}{ch:List Addr}(I:Inv X ae σ H s)(Ao:∀b∈ch,(b∈X.ex\/X.dU.heap.objs.size<=b)/\b≠X.env.locals/\(∀x c,X.env.cells.lookup x=some c->c≠b)/\∀p∈X.pn++ae,p.1≠b)(keep:∀b o,b≠X.env.locals->b∉X.fs->b∉ch->s.heap.get? b=some o->H b=none->h'.get? b=some o)(slot:∀b o,b≠X.env.locals->b∈X.fs->b∉ch->s.heap.get? b=some o->H b=none->∃sl,h'.get? b=some {o with slots:=sl})(free:∀b o,b∉ch->s.heap.get? b=some o->H b=none->H' b=none)(there:∀b o,b∉ch->s.heap.get? b=some o->∃o',h'.get? b=some o')(eW:∀b xs,H b=some (.tup xs)->H' b=some (.tup xs))(jG:∀b o u,H b=some (.gW o u)->H' b=some (.gW o u))(kK:∀b ps,H b=some (.JI ps)->∃more,H' b=some (.JI (ps++more)))(ns:∀m,s.heap.Ns X.env.locals m->h'.Ns X.env.locals m)(bw:iJ X.prog X.w H' h')(hg:AllBare g'):Inv X ae σ H' {s with heap:=h',gens:=g',drawn:=d',toks:=t'}:=by
 have Nz:∀b o,X.dU.heap.get? b=some o->b≠X.env.locals:=λb o e=>eK (fH (bP e) I.ok.above)
 have RY:∀b o,X.dU.heap.get? b=some o->b∉X.ex->b∉ch:=λb o e hx hb=>by
  rcases(Ao b hb).1 with z | z
  ·exact hx z
  ·exact absurd (fH (bP e) z) (jF _)
 have cellK:∀x c,X.env.cells.lookup x=some c->∀v,s.heap.IsCell c v->h'.IsCell c v:=λx c e v ⟨o,ho,hd⟩=>by
  have OG:c∉ch:=λz=>(Ao c z).2.2.1 x c e rfl;by_cases hc:c∈X.fs
  ·obtain⟨sl,q⟩:=slot c o (I.E6 x c e) hc OG ho (I.fY x c e);exact⟨_,q,hd⟩
  ·exact⟨o,keep c o (I.E6 x c e) hc OG ho (I.fY x c e),hd⟩
 refine⟨I.ok,I.os,hg,⟨λb o e n hb hx=>?_,λb o e n hb hx=>?_,λb o e n hx=>?_,λb o e hx=>?_,λb xs e=>eW b xs (I.base.eW b xs e),λb o xs e=>jG b o xs (I.base.jG b o xs e),λb ps e=>?_⟩,?_,λx c e=>?_,?_,λx c e=>?_,λp hp=>?_,bw,I.len⟩
 ·exact keep b o (Nz b o e) hb (RY b o e hx) (I.base.keep b o e n hb hx) (I.base.free b o e n hx)
 ·obtain⟨sl,e1⟩:=I.base.slot b o e n hb hx;obtain⟨OD,e2⟩:=slot b _ (Nz b o e) hb (RY b o e hx) e1 (I.base.free b o e n hx);exact⟨OD,e2⟩
 ·obtain⟨o',e1⟩:=I.base.there b o e hx;exact free b o' (RY b o e hx) e1 (I.base.free b o e n hx)
 ·obtain⟨o',e1⟩:=I.base.there b o e hx;exact there b o' (RY b o e hx) e1
 ·obtain⟨m1,e1⟩:=I.base.kK b ps e;obtain⟨m2,e2⟩:=kK b _ e1;exact⟨m1++m2,by rw[e2,Array.append_assoc]⟩
 ·obtain⟨m,hn,hl⟩:=I.loc;refine⟨m,ns m hn,λi x v e1 e2 e3=>?_⟩;obtain⟨u,r,l⟩:=hl i x v e1 e2 e3;refine⟨u,r,?_⟩;rcases l with l | ⟨k,c,e,z⟩
  ·exact .inl l
  ·exact .inr ⟨k,c,e,cellK x c e _ z⟩
 ·obtain⟨v,z⟩:=I.cell x c e;exact⟨v,cellK x c e v z⟩
 ·obtain⟨m,⟨o,_,_,ho,_⟩,_⟩:=I.loc;exact free _ o (λz=>(Ao _ z).2.1 rfl) ho I.free
 ·obtain⟨v,o,ho,hd⟩:=I.cell x c e;exact free c o (λz=>(Ao c z).2.2.1 x c e rfl) ho (I.fY x c e)
 ·obtain⟨e,n,ne,nf,d⟩:=I.pin p hp;have OG:p.1∉ch:=λz=>(Ao p.1 z).2.2.2 p hp rfl;exact⟨keep p.1 p.2 ne nf OG e n,free p.1 p.2 OG e n,ne,nf,d⟩
theorem Inv.un{t':Nat}(I:Inv X ae σ H s)(u:Un X.fs [] H H' s.heap h')(bw:iJ X.prog X.w H' h'):Inv X ae σ H' {s with heap:=h',toks:=t'}:=by
 obtain⟨m,⟨o,es,ep,ho,r⟩,_⟩:=id I.loc;obtain⟨sl,hL⟩:=u.any ho I.free (by simp)
 exact I.step (g':=s.gens) (d':=s.drawn) (ch:=[]) (λ_ z=>nomatch z) (λb o _ hb _ e n=>u.keep b o e n hb (by simp)) (λb o _ hb _ e n=>u.slot b o e n hb (by simp)) (λb o _ e n=>u.free b o e n (by simp)) (λb o _ e=>u.there b o e (by simp)) u.eW u.jG u.kK (λm' hm=>by
  obtain⟨o',gR,TR,xx,r'⟩:=hm;rw[ho]at xx;cases xx;exact⟨_,gR,TR,hL,r'⟩) bw I.bare
theorem Inv.call{g':Array GenState}{t':Nat}{d':Drawn}{ch:List Addr}(I:Inv X ae σ H s)(u:Un (y9 X.stack) ch H H' s.heap h')(bw:iJ X.prog X.w H' h')(hg:AllBare g')(Ao:∀b∈ch,(b∈X.ex\/X.dU.heap.objs.size<=b)/\b≠X.env.locals/\(∀x c,X.env.cells.lookup x=some c->c≠b)/\∀p∈X.pn++ae,p.1≠b):Inv X ae σ H' {s with heap:=h',gens:=g',drawn:=d',toks:=t'}:=by
 obtain⟨m,⟨o,es,ep,ho,r⟩,_⟩:=id I.loc;obtain⟨sl,hL⟩:=u.any ho I.free λz=>(Ao _ z).2.1 rfl
 exact I.step (ch:=ch) Ao (λb o hL hb hc e n=>u.keep b o e n (λz=>(bT.mp (I.qq b z)).elim hL hb) hc) (λb o _ _ hc e n=>u.any e n hc) (λb o hc e n=>u.free b o e n hc) (λb o hc e=>u.there b o e hc) u.eW u.jG u.kK (λm' hm=>by
  obtain⟨o',gR,TR,xx,r'⟩:=hm;rw[ho]at xx;cases xx;exact⟨_,gR,TR,hL,r'⟩) bw hg
theorem Inv.turned{t':Nat}{it:Addr}(I:Inv X ae σ H s)(k:∀b o,b≠it->s.heap.get? b=some o->h'.get? b=some o)(hn:H it=none)(hL:it≠X.env.locals)(h1:it∈X.ex\/X.dU.heap.objs.size<=it)(h2:∀x c,X.env.cells.lookup x=some c->c≠it)(h3:∀p∈X.pn++ae,p.1≠it):Inv X ae σ H {s with heap:=h',toks:=t'}:=by
 have OH:∀b u,H b=some u->b≠it:=λb u e z=>by rw[z,hn]at e;cases e
 refine I.step (g':=s.gens) (d':=s.drawn) (ch:=[it]) (λb hb=>?_) (λb o _ _ hc e _=>k b o (λz=>hc (by simp[z])) e) (λb o _ _ hc e _=>⟨o.slots,k b o (λz=>hc (by simp[z])) e⟩) (λ_ _ _ _ n=>n)
  (λb o hc e=>⟨o,k b o (λz=>hc (by simp[z])) e⟩) (λ_ _ e=>e) (λ_ _ _ e=>e) (λb ps e=>⟨#[],by rw[e];simp⟩) (λm hm=>?_) (λb u e=>?_) I.bare
 ·have e:b=it:=by simpa using hb
  subst e;exact⟨h1,hL,h2,h3⟩
 ·obtain⟨o,es,ep,ho,r⟩:=hm;exact⟨o,es,ep,k _ o (cN hL) ho,r⟩
 ·refine(I.bw b u e).qm (λc v hc q=>k c v ?_ q) (λ_ q=>q) λ_ _ q=>q;rcases hc with z | z
  ·rw[z];exact OH b u e
  ·exact OH c _ z
theorem Inv.tok(I:Inv X ae σ H s)(t:Nat):Inv X ae σ H {s with toks:=t}:=I.un (h':=s.heap) (t':=t) Un.refl I.bw
theorem Inv.kept{t':Nat}(I:Inv X ae σ H s)(k:∀b u,s.heap.get? b=some u->h'.get? b=some u):Inv X ae σ H {s with heap:=h',toks:=t'}:=I.un (Un.kept k) (I.bw.kept k)
theorem Inv.laid{a:Addr}{o:HO}{t':Nat}(I:Inv X ae σ H s)(k:∀b u,s.heap.get? b=some u->h'.get? b=some u)(hp:s.heap.objs.size<=a)(new:bL X.prog X.w (bu H a o) h' a o):Inv X ae σ (bu H a o) {s with heap:=h',toks:=t'}:=I.un (Un.laid k hp (I.bw.fresh hp)) (I.bw.laid k hp new)
theorem Inv.write{x e:Addr}{o:HO}{t':Nat}(I:Inv X ae σ H s)(mu:OB (H x))(he:e=x\/H e=some (.own x))(k:∀b u,b≠e->s.heap.get? b=some u->h'.get? b=some u)(Nx:∃u,h'.get? e=some u)(new:bL X.prog X.w (bu H x o) h' x o):Inv X ae σ (bu H x o) {s with heap:=h',toks:=t'}:=I.un (Un.write mu he k Nx) (I.bw.write mu he k Nx new)
theorem Inv.qt{HQ:List (Addr×Obj)}(I:Inv X ae σ H s)(h:∀p∈HQ,s.heap.get? p.1=some p.2/\H p.1=none/\p.1≠X.env.locals/\p.1∉X.fs/\∀v,p.2.data≠.cell v):Inv X HQ σ H s :=
 ⟨I.ok,I.os,I.bare,I.base,I.loc,I.cell,I.free,I.fY,λp hp=>(eV.mp hp).elim (λz=>I.pin p (EH _ z)) (h p),I.bw,I.len⟩
theorem mO{N:List Str}(hN:N.Nodup){i j:Nat}{x:Str}(a:N[i]?=some x)(b:N[j]?=some x):i=j:=by
 obtain⟨h1,e1⟩:=bG.mp a;obtain⟨h2,e2⟩:=bG.mp b;exact(List.getElem_inj hN).mp (e1.trans e2.symm)
theorem zd{M:Model}{A:Around}{E:Value->Shared->Prop}{i:Nat}{x:Str}{v:V}{u:Value}{Q:Unit->Shared->Prop}(I:Inv X ae σ H s)(hN:X.N.Nodup)(hi:X.N[i]?=some x)(hx:Loc X.env.scope x)(r:RelV v u)(h:∀s',Inv X ae (σ.set i (some v)) H s'->(∃a,Heap.SameBut a s.heap s'.heap/\(a=X.env.locals\/X.env.cells.lookup x=some a))->Q () s')(hf:X.fn x=true\/X.env.scope.names.lookup x=some .local:=by first | exact .inl rfl | exact .inr rfl | assumption):wpAny M A (storeName X.env x u) Q E s:=by
 obtain⟨m,hn,hl⟩:=id I.loc;have JM:(X.env.scope.kind == .class||(X.env.scope.kind == .module&&X.env.locals != X.env.globals))=false:=by rw[I.ok.kind];rfl
 have OI:i<σ.length:=by rw[I.len];exact(bG.mp hi).1
 have E6:=I.E6
 have tracked:∀{a:Addr}{h':Heap},(∃o,s.heap.get? a=some o/\H a=none)->Heap.SameBut a s.heap h'->iJ X.prog X.w H h':=λ{a h'} ha hs b ob e=>by
  obtain⟨_,_,sW⟩:=ha;refine(I.bw b ob e).qm (λc w' hc q=>(hs.2 c ?_).trans q) (λ_ q=>q) λ_ _ q=>q;rintro rfl;rcases hc with rfl | hc
  ·rw[sW]at e;cases e
  ·rw[sW]at hc;cases hc
 rcases hx with hk | hk
 ·refine wpAny_storeName_local hk hn (λh' vD hs=>?_) JM;obtain⟨oL,_,_,Yy,_⟩:=id hn;refine h _ ⟨I.ok,I.os,I.bare,⟨λb o e n hb hx=>?_,λb o e n hb hx=>?_,I.base.free,λb o e hx=>?_,I.base.eW,I.base.jG,I.base.kK⟩,⟨_,vD,λj y v' e1 e2 e3=>?_⟩,λy c e=>?_,I.free,I.fY,λp hp=>?_,tracked ⟨oL,Yy,I.free⟩ hs,by simpa using I.len⟩ ⟨_,hs,.inl rfl⟩
  ·exact(hs.2 b (eK (fH (bP e) I.ok.above))).trans (I.base.keep b o e n hb hx)
  ·obtain⟨sl,e1⟩:=I.base.slot b o e n hb hx;exact⟨sl,(hs.2 b (eK (fH (bP e) I.ok.above))).trans e1⟩
  ·obtain⟨o',e1⟩:=I.base.there b o e hx;exact⟨o',(hs.2 b (eK (fH (bP e) I.ok.above))).trans e1⟩
  ·by_cases hj:j=i
   ·subst hj;rw[hi]at e1;cases e1;rw[mH OI]at e2;cases e2;exact⟨u,r,.inl ⟨hk,by simp⟩⟩
   ·rw[kH (cN hj)]at e2;obtain⟨u',r',q⟩:=hl j y v' e1 e2 e3;refine⟨u',r',?_⟩;rcases q with⟨k,e⟩|⟨k,c,e,z⟩
    ·refine .inl ⟨k,?_⟩;have:y≠x:=λe=>hj (mO hN e1 (e▸hi));simp[this,e]
    ·exact .inr ⟨k,c,e,z.sameBut hs (E6 y c e)⟩
  ·obtain⟨w',z⟩:=I.cell y c e;exact⟨w',z.sameBut hs (E6 y c e)⟩
  ·obtain⟨e,n,ne,nf,d⟩:=I.pin p hp;exact⟨(hs.2 p.1 ne).trans e,n,ne,nf,d⟩
 ·have TU:X.fn x=true:=by
   rcases hf with z | z
   ·exact z
   ·rw[z]at hk;cases hk
  obtain⟨c,hc⟩:=I.ok.has x (.inl hk);obtain⟨w',z⟩:=I.cell x c hc;refine wpAny_storeName_cell I.ok.kind hk hc z (λh' ze hs=>?_);obtain⟨oc,Wy,TV⟩:=id z;refine h {s with heap:=h'} ⟨I.ok,I.os,I.bare,⟨λb o e n hb hx=>?_,λb o e n hb hx=>?_,I.base.free,λb o e hx=>?_,I.base.eW,I.base.jG,I.base.kK⟩,⟨m,hn.sameBut hs (cN (E6 x c hc)),λj y v' e1 e2 e3=>?_⟩,λy c' e=>?_,I.free,I.fY,λp hp=>?_,tracked ⟨oc,Wy,I.fY x c hc⟩ hs,by simpa using I.len⟩ ⟨c,hs,.inr hc⟩
  ·exact(hs.2 b (eK (fH (bP e) (I.ok.HP x c TU hc)))).trans (I.base.keep b o e n hb hx)
  ·obtain⟨sl,e1⟩:=I.base.slot b o e n hb hx;exact⟨sl,(hs.2 b (eK (fH (bP e) (I.ok.HP x c TU hc)))).trans e1⟩
  ·obtain⟨o',e1⟩:=I.base.there b o e hx;exact⟨o',(hs.2 b (eK (fH (bP e) (I.ok.HP x c TU hc)))).trans e1⟩
  ·by_cases hj:j=i
   ·subst hj;rw[hi]at e1;cases e1;rw[mH OI]at e2;cases e2;exact⟨u,r,.inr ⟨.inl hk,c,hc,ze⟩⟩
   ·rw[kH (cN hj)]at e2;obtain⟨u',r',q⟩:=hl j y v' e1 e2 e3;refine⟨u',r',?_⟩;rcases q with q | ⟨k,c',e,z'⟩
    ·exact .inl q
    ·refine .inr ⟨k,c',e,z'.sameBut hs ?_⟩;rintro rfl;exact hj (mO hN e1 (I.ok.inj _ _ _ e hc▸hi))
  ·by_cases Wz:c'=c
   ·subst Wz;exact⟨_,ze⟩
   ·obtain⟨w2,z2⟩:=I.cell y c' e;exact⟨w2,z2.sameBut hs Wz⟩
  ·obtain⟨e,n,ne,nf,d⟩:=I.pin p hp;refine⟨(hs.2 p.1 ?_).trans e,n,ne,nf,d⟩;intro q;rw[q,Wy]at e;have q':oc=p.2:=cR e;exact d w' (by rw[<- q'];exact TV)
theorem jI{M:Model}{A:Around}{E:Value->Shared->Prop}{i:Nat}{x:Str}{v:V}{u:Value}{Q:Unit->Shared->Prop}(I:Inv X ae σ H s)(hN:X.N.Nodup)(hi:X.N[i]?=some x)(hx:Loc X.env.scope x)(r:RelV v u)(h:∀s',Inv X ae (σ.set i (some v)) H s'->Q () s')(hf:X.fn x=true\/X.env.scope.names.lookup x=some .local:=by first | exact .inl rfl | exact .inr rfl | assumption):wpAny M A (storeName X.env x u) Q E s :=
 zd I hN hi hx r (λs' I' _=>h s' I') hf
theorem Inv.Bj{s':Shared}{ch:List Addr}(I:Inv X ae σ H s)(ho:s'.os=s.os)(u:Un (y9 X.stack) ch H H' s.heap s'.heap)(bw:iJ X.prog X.w H' s'.heap)(hg:AllBare s'.gens)(Ao:∀b∈ch,(b∈X.ex\/X.dU.heap.objs.size<=b)/\b≠X.env.locals/\(∀x c,X.env.cells.lookup x=some c->c≠b)/\∀p∈X.pn++ae,p.1≠b):Inv X ae σ H' s':=by
 obtain⟨h',g',d',t',o'⟩:=s';have e:o'=s.os:=ho;subst e;exact I.call (g':=g') (t':=t') (d':=d') u bw hg Ao
end
abbrev XK:=Value->Option Addr->Hp->Prop
abbrev St:=List (Option V)
abbrev VK:=V->Hp->Prop
abbrev TE:=St->Hp->VK->Prop
abbrev TT:=St->Hp->(Bool->Hp->Prop)->Prop
abbrev TA:=St->Hp->(List V->Hp->Prop)->Prop
structure Ends where
 nx:St->Hp->Prop
 rt:VK
 bk:St->Hp->Prop:=λ_ _=>False
 ct:St->Hp->Prop:=λ_ _=>False
abbrev TS:=Ends->St->Hp->Prop
def EP(X:Cx)(ae:List (Addr×Obj))(σ:St)(Q:VK)(u:Value)(s':Shared):Prop:=∃v H',Inv X ae σ H' s'/\RelV v u/\Q v H'
noncomputable def TP(X:Cx)(ae:List (Addr×Obj))(σ:St)(Q:Bool->Hp->Prop)(b:Bool)(s':Shared):Prop:=∃H',Inv X ae σ H' s'/\Q b H'
noncomputable def AP(X:Cx)(ae:List (Addr×Obj))(σ:St)(Q:List V->Hp->Prop)(us:List Value)(s':Shared):Prop:=∃vs H',Inv X ae σ H' s'/\aQ vs us/\Q vs H'
def SP(X:Cx)(ae:List (Addr×Obj))(D:Ends)(f:Flow)(s':Shared):Prop :=
 match f with
 | .next=>∃cY H',Inv X ae cY H' s'/\D.nx cY H'
 | .brk=>∃cY H',Inv X ae cY H' s'/\D.bk cY H'
 | .cont=>∃cY H',Inv X ae cY H' s'/\D.ct cY H'
 | .ret u=>∃v cY H',Inv X ae cY H' s'/\RelV v u/\D.rt v H'
def PE(X:Cx)(e:Expr)(t:TE):Prop :=
 ∀(ae:List (Addr×Obj))(s:Shared)(σ:St)(H:Hp)(Q:VK),Inv X ae σ H s->t σ H Q->wpAny (model X.prog X.w) X.A (eval e X.env) (EP X ae σ Q) X.xe s
def PT(X:Cx)(e:Expr)(t:TT):Prop :=
 ∀(ae:List (Addr×Obj))(s:Shared)(σ:St)(H:Hp)(Q:Bool->Hp->Prop),Inv X ae σ H s->t σ H Q->wpAny (model X.prog X.w) X.A (isTrue e X.env (eval e X.env)) (TP X ae σ Q) X.xe s
def PW(X:Cx)(e:Expr)(t:TT):Prop :=
 ∀(iN:Sem Value)(ae:List (Addr×Obj))(s:Shared)(σ:St)(H:Hp)(Q:Bool->Hp->Prop),Inv X ae σ H s->t σ H Q->wpAny (model X.prog X.w) X.A (isTrue e X.env iN) (TP X ae σ Q) X.xe s
theorem PW.pt{X:Cx}{e:Expr}{t:TT}(h:PW X e t):PT X e t:=h _
def PA(X:Cx)(es:List Expr)(t:TA):Prop :=
 ∀(pos:Pos)(ae:List (Addr×Obj))(s:Shared)(σ:St)(H:Hp)(Q:List V->Hp->Prop),Inv X ae σ H s->t σ H Q->wpAny (model X.prog X.w) X.A (spliced (backTo pos (starEach es X.env))) (AP X ae σ Q) X.xe s
def PS(X:Cx)(st:Stmt)(t:TS):Prop :=
 ∀(ae:List (Addr×Obj))(s:Shared)(σ:St)(H:Hp)(D:Ends),Inv X ae σ H s->t D σ H->wpAny (model X.prog X.w) X.A (exec st X.env) (SP X ae D) X.xe s
def pe(X:Cx)(st:List Stmt)(t:TS):Prop :=
 ∀(ae:List (Addr×Obj))(s:Shared)(σ:St)(H:Hp)(D:Ends),Inv X ae σ H s->t D σ H->wpAny (model X.prog X.w) X.A (execs st X.env) (SP X ae D) X.xe s
theorem bX{α:Type}{t:Sem α}{Q Q':α->Shared->Prop}{M:Model}{A:Around}{E:Value->Shared->Prop}{s:Shared}(h:wpAny M A t Q E s)(hQ:∀a s,Q a s->Q' a s):wpAny M A t Q' E s:=jb h hQ λ_ _ x=>x
section
variable {X:Cx}
theorem bin{a b:Expr}{ta tb:TE}(ha:PE X a ta)(hb:PE X b tb){ae:List (Addr×Obj)}{s:Shared}{σ:St}{H:Hp}{R:V->V->Hp->Prop}(I:Inv X ae σ H s)(h:ta σ H λx H1=>tb σ H1 λy H2=>R x y H2){α:Type}{Q:α->Shared->Prop}{f:Value->Value->Sem α}(hf:∀v u s2 x y H2,Inv X ae σ H2 s2->RelV x v->RelV y u->R x y H2->wpAny (model X.prog X.w) X.A (f v u) Q X.xe s2):wpAny (model X.prog X.w) X.A (eval a X.env) (λv br=>wpAny (model X.prog X.w) X.A (eval b X.env) (λu zf=>wpAny (model X.prog X.w) X.A (f v u) Q X.xe zf) X.xe br) X.xe s:=by
 refine bX (ha ae s σ H _ I h) ?_;rintro v s1 ⟨x,H1,I1,r1,q1⟩;refine bX (hb ae s1 σ H1 _ I1 q1) ?_;rintro u s2 ⟨y,H2,I2,r2,q2⟩;exact hf v u s2 x y H2 I2 r1 r2 q2
noncomputable def JN(i:Nat):TE:=λσ H Q=>∃v,σ[i]?=some (some v)/\Q v H
def tC(v:V):TE:=λ_ H Q=>Q v H
theorem g_{i:Nat}{x:Str}{pos:Pos}(hN:X.N[i]?=some x)(hv:OE X.env.scope x) (hd:(x==("__debug__" : Str))=false:=by decide) (Ap:(x==("__classdict__" : Str))=false:=by decide):PE X (.Name x pos) (JN i):=by
 intro ae s σ H Q I h;obtain⟨v,e,h⟩:=h;obtain⟨m,hn,hl⟩:=I.loc;obtain⟨u,r,l⟩:=hl i x v hN e hv;have fin:EP X ae σ Q u s:=⟨v,H,I,r,h⟩;rcases l with⟨hk,hm⟩|⟨hk,c,hc,xy⟩
 ·exact wpAny_Name (wpAny_loadName_local I.ok.kind hk hn hm fin) hd
 ·rcases hk with hk | hk
  ·exact wpAny_Name (wpAny_loadName_cell I.ok.kind hk hc xy fin) hd
  ·exact wpAny_Name (wpAny_loadName_free I.ok.kind hk hc xy fin Ap) hd
theorem qu {i j pos}:PE X (.Constant (.int i) j pos) (tC (.int i)):=λ_ _ _ H _ I h=>wpAny_Constant_int ⟨.int i,H,I.tok _,⟨_,rfl⟩,h⟩
theorem HR {b j pos}:PE X (.Constant (.bool b) j pos) (tC (.bl b)):=λ_ _ _ H _ I h=>Constant_bool ⟨.bl b,H,I,rfl,h⟩
theorem JO {j pos}:PE X (.Constant .none j pos) (tC .aL):=λ_ _ _ H _ I h=>Constant_none ⟨.aL,H,I,rfl,h⟩
theorem qv {x j pos}:PE X (.Constant (.str x) j pos) (tC (.str x)):=λ_ _ _ H _ I h=>Calls.Constant_str ⟨.str x,H,I.tok _,⟨_,rfl⟩,h⟩
noncomputable def Gl(X:Cx)(x:Str):Prop:=X.env.kindOf x=some .globalImplicit
theorem jJ{E:Value->Shared->Prop}{ae:List (Addr×Obj)}{s:Shared}{σ:St}{H:Hp}{x:Str}{u:Value}{pos:Pos}{Q:Value->Shared->Prop}(I:Inv X ae σ H s)(hg:Gl X x)(hm:X.mg x=some u)(h:Q u s) (hd:(x==("__debug__" : Str))=false:=by decide):wpAny (model X.prog X.w) X.A (eval (.Name x pos) X.env) Q E s :=
 Calls.Name_function_global I.ok.kind hg (Calls.loadGlobal_global (by rw[I.ok.glob];exact I.mod.glob.keeps I.bk) hm h) hd
theorem mP{E:Value->Shared->Prop}{ae:List (Addr×Obj)}{s:Shared}{σ:St}{H:Hp}{x:Str}{u:Value}{pos:Pos}{Q:Value->Shared->Prop}(I:Inv X ae σ H s)(hg:Gl X x)(hm:X.mg x=none)(hv:bootBuiltins x=some u)(h:Q u s) (hn:x≠ "__name__" := by decide) (hd:(x==("__debug__" : Str))=false:=by decide):wpAny (model X.prog X.w) X.A (eval (.Name x pos) X.env) Q E s:=by
 obtain⟨mb,h1,h2⟩:=I.mod.blt;exact Calls.Name_function_global I.ok.kind hg (Calls.loadGlobal_builtin (by rw[I.ok.glob];exact I.mod.glob.keeps I.bk) hm (by rw[I.ok.blt];exact h1.keeps I.bk) ((h2 x hn).trans hv) h) hd
theorem qw{x:Str}{v:V}{u:Value}{pos:Pos}(hg:Gl X x)(hm:X.mg x=some u)(r:RelV v u) (hd:(x==("__debug__" : Str))=false:=by decide):PE X (.Name x pos) (tC v) :=
 λ_ _ _ H _ I h=>jJ I hg hm ⟨v,H,I,r,h⟩ hd
theorem xB{x:Str}{v:V}{u:Value}{pos:Pos}(hg:Gl X x)(hm:X.mg x=none)(hv:bootBuiltins x=some u)(r:RelV v u) (hn:x≠ "__name__" := by decide) (hd:(x==("__debug__" : Str))=false:=by decide):PE X (.Name x pos) (tC v) :=
 λ_ _ _ H _ I h=>mP I hg hm hv ⟨v,H,I,r,h⟩ hn hd
variable {a b:Expr} {ta tb:TE} {pos:Pos}
noncomputable def tB(t:TE):TT:=λσ H Q=>t σ H λx H1=>∃c,x=.bl c/\Q c H1
theorem JP{e:Expr}{t:TE}(h:PE X e t)(he:∀iN,isTrue e X.env iN=(do let v <- iN;standAt e.pos;holding [v] (truthy v)):=by intro _;rfl):PT X e (tB t):=by
 intro ae s σ H Q I hw;refine isTrue_plain (bX (h ae s σ H _ I hw) ?_) (he _);rintro v s1 ⟨x,H1,I1,r1,q1⟩;obtain⟨d,rfl,q⟩:=q1;cases r1;exact qh ⟨H1,I1,q⟩
variable {tA RZ:TT} {eA:List Expr}
noncomputable def OJ(t u:TT):TT:=λσ H Q=>t σ H λc H1=>if c=true then u σ H1 Q else Q false H1
noncomputable def Yz(t u:TT):TT:=λσ H Q=>t σ H λc H1=>if c=true then Q true H1 else u σ H1 Q
def TX(t:TT):TT:=λσ H Q=>t σ H λc H1=>Q (!c) H1
theorem xC(ha:PT X a tA):PW X (.BoolOp .And [a] pos) tA:=by
 intro wh ae s σ H Q I h;refine isTrue_and (bX (ha ae s σ H Q I h) λc s1 e=>?_)
 cases c with
 | true=>exact isTrue_and_nil e
 | false=>exact e
theorem JQ(ha:PT X a tA):PW X (.BoolOp .Or [a] pos) tA:=by
 intro wh ae s σ H Q I h;refine isTrue_or (bX (ha ae s σ H Q I h) λc s1 e=>?_)
 cases c with
 | false=>exact isTrue_or_nil e
 | true=>exact e
theorem Bk(ha:PT X a tA)(hb:PW X (.BoolOp .And (b::eA) pos) RZ):PW X (.BoolOp .And (a::b::eA) pos) (OJ tA RZ):=by
 intro wh ae s σ H Q I h;refine isTrue_and (bX (ha ae s σ H _ I h) ?_);rintro c s1 ⟨H1,I1,q1⟩
 cases c with
 | true=>exact hb wh ae s1 σ H1 Q I1 q1
 | false=>exact⟨H1,I1,q1⟩
theorem OK(ha:PT X a tA)(hb:PW X (.BoolOp .Or (b::eA) pos) RZ):PW X (.BoolOp .Or (a::b::eA) pos) (Yz tA RZ):=by
 intro wh ae s σ H Q I h;refine isTrue_or (bX (ha ae s σ H _ I h) ?_);rintro c s1 ⟨H1,I1,q1⟩
 cases c with
 | true=>exact⟨H1,I1,q1⟩
 | false=>exact hb wh ae s1 σ H1 Q I1 q1
theorem JR(ha:PT X a tA):PT X (.UnaryOp .Not a pos) (TX tA):=by
 intro ae s σ H Q I h;exact isTrue_not (ha ae s σ H (λc H1=>Q (!c) H1) I h)
noncomputable def OL(ta tb:TE):TE:=λσ H Q=>ta σ H λx H1=>∃c,x=.bl c/\if c=true then tb σ H1 Q else Q (.bl false) H1
noncomputable def TY(ta tb:TE):TE:=λσ H Q=>ta σ H λx H1=>∃c,x=.bl c/\if c=true then Q (.bl true) H1 else tb σ H1 Q
noncomputable def OM(ta:TE):TE:=λσ H Q=>ta σ H λx H1=>∃c,x=.bl c/\Q (.bl (!c)) H1
theorem Bl {op} {t:TE} (h:PE X a t):PE X (.BoolOp op [a] pos) t:=λae s σ H Q I hw=>BoolOp_one (h ae s σ H Q I hw)
theorem JS(ha:PE X a ta)(hb:PE X (.BoolOp .And (b::eA) pos) tb):PE X (.BoolOp .And (a::b::eA) pos) (OL ta tb):=by
 intro ae s σ H Q I h;refine BoolOp_and (bX (ha ae s σ H _ I h) ?_);rintro v s1 ⟨x,H1,I1,r1,q1⟩;obtain⟨c,rfl,q1⟩:=q1;cases r1;refine qh ?_
 cases c with
 | true=>exact hb ae s1 σ H1 Q I1 q1
 | false=>exact⟨.bl false,H1,I1,rfl,q1⟩
theorem ON(ha:PE X a ta)(hb:PE X (.BoolOp .Or (b::eA) pos) tb):PE X (.BoolOp .Or (a::b::eA) pos) (TY ta tb):=by
 intro ae s σ H Q I h;refine BoolOp_or (bX (ha ae s σ H _ I h) ?_);rintro v s1 ⟨x,H1,I1,r1,q1⟩;obtain⟨c,rfl,q1⟩:=q1;cases r1;refine qh ?_
 cases c with
 | false=>exact hb ae s1 σ H1 Q I1 q1
 | true=>exact⟨.bl true,H1,I1,rfl,q1⟩
theorem JT(ha:PE X a ta):PE X (.UnaryOp .Not a pos) (OM ta):=by
 intro ae s σ H Q I h;refine UnaryOp_ (bX (ha ae s σ H _ I h) ?_);rintro v s1 ⟨x,H1,I1,r1,q1⟩;obtain⟨c,rfl,q1⟩:=q1;cases r1;exact not_of (qh ⟨.bl (!c),H1,I1,rfl,q1⟩)
noncomputable def YA(t:TT)(ta tb:TE):TE:=λσ H Q=>t σ H λc H1=>if c=true then ta σ H1 Q else tb σ H1 Q
theorem Bm{c:Expr}(hc:PT X c tA)(ha:PE X a ta)(hb:PE X b tb):PE X (.IfExp c a b pos) (YA tA ta tb):=by
 intro ae s σ H Q I h;refine wpAny_IfExp (bX (hc ae s σ H _ I h) ?_);rintro d s1 ⟨H1,I1,q1⟩
 cases d with
 | true=>exact ha ae s1 σ H1 Q I1 q1
 | false=>exact hb ae s1 σ H1 Q I1 q1
end
def fN(K:Frag)(H:Hp)(a:Addr)(xs:List V):Prop :=
 Rd H a (.lst xs) \/
  ∃(o:Obj) (aA:Array Value) (n:Nat),K.lookup a=some o/\o.cls=.type "list" /\ o.dict=none/\o.data=.seq aA n/\aA.size<=sizeLine/\aQ xs aA.toList
def gx(K:Frag)(H:Hp)(a:Addr)(xs:List V):Prop :=
 Rd H a (.tup xs) \/
  ∃(o:Obj) (aA:Array Value) (n:Nat),K.lookup a=some o/\o.cls=.type "tuple" /\ o.data=.seq aA n/\aA.size<=sizeLine/\aQ xs aA.toList
noncomputable def TZ:Value->Option V
 | .none=>some .aL
 | .bool b=>some (.bl b)
 | .int i _=>some (.int i)
 | .str x _=>some (.str x)
 | .bytes b _=>some (.JH b)
 | .float b _=>some (.HN b)
 | .ref a=>some (.ref a)
 | .type n=>some (.ty n)
 | _=>none
theorem RelV.abs{x:V}{u:Value}(r:RelV x u):TZ u=some x:=by
 cases x with
 | aL=>cases r;rfl
 | bl _=>cases r;rfl
 | int _=>obtain⟨t,rfl⟩:=r;rfl
 | str _=>obtain⟨t,rfl⟩:=r;rfl
 | JH _=>obtain⟨t,rfl⟩:=r;rfl
 | HN _=>obtain⟨t,rfl⟩:=r;rfl
 | ref _=>cases r;rfl
 | ty _=>cases r;rfl
theorem RelV.inj{x y:V}{u:Value}(r:RelV x u)(q:RelV y u):x=y:=cR (r.abs.symm.trans q.abs)
theorem aQ.inj:∀{xs ys:List V}{us:List Value},aQ xs us->aQ ys us->xs=ys
 | _,_,_,.nil,.nil=>rfl
 | _,_,_,.cons r t,.cons r' t'=>by rw[r.inj r',aQ.inj t t']
section
variable {X:Cx} {ae:List (Addr×Obj)} {σ:St} {H:Hp} {s:Shared} {a:Addr} {xs ys:List V}
theorem fN.of{K:Frag}(h:H a=some (.lst xs)):fN K H a xs:=.inl (.inl h)
theorem gx.of{K:Frag}(h:H a=some (.tup xs)):gx K H a xs:=.inl (.inl h)
theorem Inv.list(I:Inv X ae σ H s)(h:fN X.K H a xs):∃aA:List Value,aQ xs aA/\PlainL s.heap a aA.toArray/\xs.length<=sizeLine:=by
 rcases h with h | ⟨o,aA,n,hk,hc,hd,hs,hz,r⟩
 ·obtain⟨z,aA,n,r,e⟩:=h.ok I.bw;exact⟨aA,r,⟨_,n,e,rfl,rfl,rfl⟩,z⟩
 ·refine⟨aA.toList,r,⟨o,n,I.kB a o hk,hc,hd,by simpa using hs⟩,?_⟩;have e:=r.length;simp only[vt]at e;omega
theorem Inv.tuple(I:Inv X ae σ H s)(h:gx X.K H a xs):∃aA:List Value,aQ xs aA/\IsTup s.heap a aA.toArray/\xs.length<=sizeLine:=by
 rcases h with h | ⟨o,aA,n,hk,hc,hs,hz,r⟩
 ·obtain⟨z,aA,r,p⟩:=h.ok I.bw;exact⟨aA,r,p,z⟩
 ·refine⟨aA.toList,r,⟨o,I.kB a o hk,hc,n,by simpa using hs⟩,?_⟩;have e:=r.length;simp only[vt]at e;omega
theorem Inv.sX(I:Inv X ae σ H s)(h:fN X.K H a xs)(h':fN X.K H a ys):xs=ys:=by
 obtain⟨aA,r,⟨o,n,e,_,_,d⟩,_⟩:=I.list h;obtain⟨its',r',⟨o',n',e',_,_,d'⟩,_⟩:=I.list h';rw[e]at e';cases e';rw[d]at d';injection d' with d1 _;have:aA=its':=by simpa using oN Array.toList d1
 subst this;exact r.inj r'
theorem Inv.pf(I:Inv X ae σ H s)(h:gx X.K H a xs)(h':gx X.K H a ys):xs=ys:=by
 obtain⟨aA,r,⟨o,e,_,n,d⟩,_⟩:=I.tuple h;obtain⟨its',r',⟨o',e',_,n',d'⟩,_⟩:=I.tuple h';rw[e]at e';cases e';rw[d]at d';injection d' with d1 _;have:aA=its':=by simpa using oN Array.toList d1
 subst this;exact r.inj r'
end
abbrev Cx.kL(X:Cx)(E:Value->Shared->Prop):Cx:={X with xe:=E}
abbrev Cx.Aq(X:Cx):Cx:=X.kL λ_ _=>False
theorem Cx.Ok.kL{X:Cx}(ok:X.Ok)(E:Value->Shared->Prop):(X.kL E).Ok :=
 ⟨ok.mod,ok.kind,ok.glob,ok.blt,ok.above,ok.inj,ok.has,ok.HP,ok.hd,ok.frames,ok.xv,ok.RX,ok.bs,ok.An,ok.y_,ok.zc,ok.jH,ok.E5⟩
theorem Cx.Ok.fc{X:Cx}{E:Value->Shared->Prop}(ok:(X.kL E).Ok):X.Ok :=
 ⟨ok.mod,ok.kind,ok.glob,ok.blt,ok.above,ok.inj,ok.has,ok.HP,ok.hd,ok.frames,ok.xv,ok.RX,ok.bs,ok.An,ok.y_,ok.zc,ok.jH,ok.E5⟩
section
variable {X:Cx} {ae:List (Addr×Obj)} {σ:St} {H:Hp} {s:Shared} {E:Value->Shared->Prop}
theorem Inv.kL(I:Inv X ae σ H s)(E:Value->Shared->Prop):Inv (X.kL E) ae σ H s:=⟨I.ok.kL E,I.os,I.bare,I.base,I.loc,I.cell,I.free,I.fY,I.pin,I.bw,I.len⟩
theorem Inv.fc(I:Inv (X.kL E) ae σ H s):Inv X ae σ H s:=⟨I.ok.fc,I.os,I.bare,I.base,I.loc,I.cell,I.free,I.fY,I.pin,I.bw,I.len⟩
theorem SP.fc{D:Ends}{f:Flow}{s':Shared}(h:SP (X.kL E) ae D f s'):SP X ae D f s':=by
 cases f with
 | next=>obtain⟨cY,H',I,q⟩:=h;exact⟨cY,H',I.fc,q⟩
 | brk=>obtain⟨cY,H',I,q⟩:=h;exact⟨cY,H',I.fc,q⟩
 | cont=>obtain⟨cY,H',I,q⟩:=h;exact⟨cY,H',I.fc,q⟩
 | ret u=>obtain⟨v,cY,H',I,r,q⟩:=h;exact⟨v,cY,H',I.fc,r,q⟩
theorem PE.Aq{e:Expr}{t:TE}(h:PE X.Aq e t):PE X e t:=λae s σ H Q I hw =>
 jb (h ae s σ H Q (I.kL _) hw) (by rintro _ _ ⟨v,H',I',r,q⟩;exact⟨v,H',I'.fc,r,q⟩) λ_ _ z=>False.elim z
theorem PT.Aq{e:Expr}{t:TT}(h:PT X.Aq e t):PT X e t:=λae s σ H Q I hw =>
 jb (h ae s σ H Q (I.kL _) hw) (by rintro _ _ ⟨H',I',q⟩;exact⟨H',I'.fc,q⟩) λ_ _ z=>False.elim z
theorem pe.Aq{st:List Stmt}{t:TS}(h:pe X.Aq st t):pe X st t:=λae s σ H D I hw =>
 jb (h ae s σ H D (I.kL _) hw) (λ_ _ q=>q.fc) λ_ _ z=>False.elim z
end
section
variable {X:Cx} {st:Stmt} {eA:List Stmt} {t u:TS} {e:Expr} {te:TE} {pos:Pos}
def HS:TS:=λD σ H=>D.nx σ H
def OO(t u:TS):TS:=λD σ H=>t {D with nx:=u D} σ H
theorem qx:pe X [] HS:=λ_ _ σ H _ I h=>AS ⟨σ,H,I,h⟩
theorem hG(h1:PS X st t)(h2:pe X eA u):pe X (st::eA) (OO t u):=by
 intro ae s σ H D I h;refine wpAny_execs_cons (bX (h1 ae s σ H {D with nx:=u D} I h) λf s1 q=>?_)
 cases f with
 | next =>
  obtain⟨cY,H',I',q⟩:=q;exact h2 ae s1 cY H' D I' q
 | ret v=>exact q
 | brk=>exact q
 | cont=>exact q
theorem jK(h1:PS X st t):pe X [st] t:=by
 intro ae s σ H D I h;refine wpAny_execs_cons (bX (h1 ae s σ H D I h) λf s1 q=>?_)
 cases f with
 | next=>exact AS q
 | ret v=>exact q
 | brk=>exact q
 | cont=>exact q
def JU:TS:=λD σ H=>D.bk σ H
def OP:TS:=λD σ H=>D.ct σ H
theorem E7:PS X (.Pass pos) HS:=λ_ _ σ H _ I h=>wpAny_Pass ⟨σ,H,I,h⟩
theorem Bn:PS X (.Break pos) JU:=λ_ _ σ H _ I h=>wpAny_Break ⟨σ,H,I,h⟩
theorem sY:PS X (.Continue pos) OP:=λ_ _ σ H _ I h=>wpAny_Continue ⟨σ,H,I,h⟩
theorem Inv.quiet{ae:List (Addr×Obj)}{σ:St}{H:Hp}{s:Shared}(I:Inv X ae σ H s):interactive X.env=false:=by simp[interactive,I.ok.kind]
def OQ(te:TE):TS:=λD σ H=>te σ H λ_ H1=>D.nx σ H1
theorem E8(he:PE X e te)(hs:swapsWith e none pos.line X.env=pure false:=by rfl):PS X (.Expr e pos) (OQ te):=by
 intro ae s σ H D I h;exact wpAny_Expr_any (bX (he ae s σ H _ I h) λv s1 ⟨x,H1,I1,r1,q1⟩=>⟨σ,H1,I1,q1⟩) I.quiet hs
def T1(te:TE):TS:=λD σ H=>te σ H D.rt
theorem Bo(he:PE X e te):PS X (.Return (some e) pos) (T1 te):=by
 intro ae s σ H D I h;exact wpAny_Return_some (bX (he ae s σ H _ I h) λv s1 ⟨x,H1,I1,r1,q1⟩=>⟨x,σ,H1,I1,r1,q1⟩)
def OR:TS:=λD _ H=>D.rt .aL H
theorem E9:PS X (.Return none pos) OR:=λ_ _ σ H _ I h=>wpAny_Return_none ⟨.aL,σ,H,I,rfl,h⟩
noncomputable def T3(c:TT)(t u:TS):TS:=λD σ H=>c σ H λb H1=>if b=true then t D σ H1 else u D σ H1
theorem Bp{c:Expr}{a b:List Stmt}{tc:TT}(hc:PT X c tc)(ha:pe X a t)(hb:pe X b u):PS X (.If c a b pos) (T3 tc t u):=by
 intro ae s σ H D I h;refine wpAny_If (bX (hc ae s σ H _ I h) ?_);rintro d s1 ⟨H1,I1,q1⟩
 cases d with
 | true=>exact ha ae s1 σ H1 D I1 q1
 | false=>exact hb ae s1 σ H1 D I1 q1
def JV:TS:=λ_ _ _=>False
theorem Bq:PS X st JV:=λ_ _ _ _ _ _ h=>h.elim
end
abbrev TG:=V->St->Hp->(St->Hp->Prop)->Prop
abbrev HU:=List V->St->Hp->(St->Hp->Prop)->Prop
def PG(X:Cx)(kM:Expr)(t:TG):Prop :=
 ∀(ae:List (Addr×Obj))(s:Shared)(σ:St)(H:Hp)(v:V)(u:Value)(Q:St->Hp->Prop),Inv X ae σ H s->RelV v u->t v σ H Q ->
  wpAny (model X.prog X.w) X.A (assign kM X.env u) (λ_ s'=>∃cY H',Inv X ae cY H' s'/\Q cY H') X.xe s
noncomputable def NA(X:Cx)(ts:List Expr)(t:HU):Prop :=
 ∀(ae:List (Addr×Obj))(s:Shared)(σ:St)(H:Hp)(vs:List V)(us:List Value)(Q:St->Hp->Prop),Inv X ae σ H s->aQ vs us->t vs σ H Q ->
  wpAny (model X.prog X.w) X.A (assignInOrder ((assignEach ts X.env).map (·.2)) us) (λ_ s'=>∃cY H',Inv X ae cY H' s'/\Q cY H') X.xe s
abbrev E_:=V->V->V->Hp->(Hp->Prop)->Prop
def JW(X:Cx)(t:E_):Prop :=
 ∀(ae:List (Addr×Obj))(s:Shared)(σ:St)(H:Hp)(o i v:V)(ov iv u:Value)(Q:Hp->Prop),Inv X ae σ H s->RelV o ov->RelV i iv->RelV v u->t o i v H Q ->
  wpAny (model X.prog X.w) X.A (setItem ov iv u) (λ_ s'=>∃H',Inv X ae σ H' s'/\Q H') X.xe s
section
variable {X:Cx} {pos:Pos}
def xD(i:Nat):TG:=λv σ H Q=>Q (σ.set i (some v)) H
theorem qy{i:Nat}{x:Str}(hN:X.N.Nodup)(hi:X.N[i]?=some x)(hx:Loc X.env.scope x)(hf:X.fn x=true\/X.env.scope.names.lookup x=some .local:=by first | exact .inl rfl | exact .inr rfl | assumption):PG X (.Name x pos) (xD i):=by
 intro ae s σ H v u Q I r h;exact wpAny_assign_Name (jI I hN hi hx r (λs' I'=>⟨_,H,I',h⟩) hf)
def OS:HU:=λvs σ H Q=>vs=[]/\Q σ H
noncomputable def HV(t:TG)(u:HU):HU:=λvs σ H Q=>∃v r,vs=v::r/\t v σ H λcY H'=>u r cY H' Q
theorem Fb:NA X [] OS:=by
 intro ae s σ H vs us Q I r h;obtain⟨e,h⟩:=h;subst e;cases r;exact assignInOrder_nil ⟨σ,H,I,h⟩
theorem Br{e:Expr}{es:List Expr}{t:TG}{u:HU}(h1:PG X e t)(h2:NA X es u)(hs:(assignEach (e::es) X.env).map (·.2)=assign e X.env::(assignEach es X.env).map (·.2):=by rfl):NA X (e::es) (HV t u):=by
 intro ae s σ H vs us Q I r h;obtain⟨v,vr,e1,h⟩:=h;subst e1
 cases r with
 | cons r rr =>
  rw[hs];refine assignInOrder_cons (bX (h1 ae s σ H _ _ _ I r h) ?_);rintro _ s1 ⟨WB,H1,I1,q1⟩;exact h2 ae s1 WB H1 _ _ Q I1 rr q1
def T4(K:Frag)(n:Nat)(t:HU):TG:=λv σ H Q=>∃a xs,v=.ref a/\gx K H a xs/\xs.length=n/\t xs σ H Q
theorem JX{es:List Expr}{k:Nat}{t:HU}{n:Nat}(hc:X.calm=true)(h:NA X es t)(hn:(assignEach es X.env).length=n:=by rfl)(fO:(assignEach es X.env).findIdx? (·.1)=none:=by rfl):PG X (.Tuple es k pos) (T4 X.K n t):=by
 intro ae s σ H v u Q I r hw;obtain⟨a,xs,e1,hq,hl,hw⟩:=hw;subst e1;cases r;obtain⟨aA,rv,ht,hz⟩:=I.tuple hq;refine assign_Tuple_tuple (I.ok.hd hc) ht (by simp[hn,<- hl,rv.length]) fO λh' hx=>?_;have I1:Inv X ae σ H {s with heap:=h'}:=I.kept (t':=s.toks) λb o e=>hx b o (eK (bP e)) e;exact h ae _ σ H xs _ Q I1 (by simpa using rv) hw
noncomputable def T5(to ti:TE)(t:E_):TG:=λv σ H Q=>to σ H λo H1=>ti σ H1 λi H2=>t o i v H2 λH3=>Q σ H3
theorem JY {o i : Expr} {to ti : TE} {t : E_} (ho : PE X o to) (hi : PE X i ti) (hs : JW X t)
    (ha:∀v,assign (.Subscript o i pos) X.env v=(do
      let ov <- holding [v] (eval o X.env)
      let iv <- holding [v,ov] (eval i X.env)
      standAt pos
      holding [v,ov,iv] (setItem ov iv v)
      release [v,ov,iv] []):=by intro _;rfl):PG X (.Subscript o i pos) (T5 to ti t):=by
  intro ae s σ H v u Q I r h;rw[ha];refine aj (mK (bX (ho ae s σ H _ I h) ?_));rintro ov s1 ⟨x,H1,I1,r1,q1⟩;refine aj (mK (bX (hi ae s1 σ H1 _ I1 q1) ?_));rintro iv s2 ⟨y,H2,I2,r2,q2⟩;refine aj (y3 (aj (mK (bX (hs ae s2 σ H2 x y v ov iv u _ I2 r1 r2 r q2) ?_))));rintro _ s3 ⟨H3,I3,q3⟩;exact wpAny_release ⟨σ,H3,I3,q3⟩
noncomputable def Fc(te:TE)(g:TG):TS:=λD σ H=>te σ H λx H1=>g x σ H1 D.nx
theorem vE{tg e:Expr}{te:TE}{g:TG}(he:PE X e te)(hg:PG X tg g)(hs:swapsWithSole [tg] e pos.line X.env=pure false:=by rfl)(hw:swappedStores [tg] e X.env=pure none:=by rfl)(h1:(assignEach [tg] X.env).map (·.2)=[assign tg X.env]:=by rfl):PS X (.Assign [tg] e pos) (Fc te g):=by
 intro ae s σ H D I h;refine wpAny_Assign_stores (bX (he ae s σ H _ I h) ?_) hs hw;rintro v s1 ⟨x,H1,I1,r1,q1⟩;rw[h1];exact bX (hg ae s1 σ H1 x v _ I1 r1 q1) λ_ s2 q=>q
theorem vF{i:Nat}{x:Str}{e:Expr}{te:TE}{zg:Pos}(hN:X.N.Nodup)(hi:X.N[i]?=some x)(hx:Loc X.env.scope x)(he:PE X e te)(hs:swapsWith e (some (.Name x zg)) pos.line X.env=pure false:=by rfl)(hf:X.fn x=true\/X.env.scope.names.lookup x=some .local:=by first | exact .inl rfl | exact .inr rfl | assumption):PS X (.Assign [.Name x zg] e pos) (Fc te (xD i)):=by
 intro ae s σ H D I h;refine wpAny_Assign_Name (bX (he ae s σ H _ I h) ?_) hs;rintro v s1 ⟨y,H1,I1,r1,q1⟩;exact jI I1 hN hi hx r1 (λs2 I2=>⟨_,H1,I2,q1⟩) hf
end
structure It where
 go:Nat->Hp->Prop
 NB:Nat->Hp->V->Hp->Prop
 stop:Nat->Hp->Prop
noncomputable def lS(X:Cx)(ae:List (Addr×Obj))(H:Hp)(b:Addr):Prop :=
 H b=none/\b≠X.env.locals/\b∉X.fs/\(b∈X.ex\/X.dU.heap.objs.size<=b)/\(∀x c,X.env.cells.lookup x=some c->c≠b)/\∀p∈X.pn++ae,p.1≠b
theorem Inv.Bs{X:Cx}{ae:List (Addr×Obj)}{σ:St}{H H':Hp}{s:Shared}{b:Addr}(I:Inv X ae σ H s)(hb:s.heap.objs.size<=b)(hn:H' b=none):lS X ae H' b:=by
 refine⟨hn,Ba (fH I.lt hb),I.OF hb,.inr (bJ I.sz hb),λx c e z=>?_,λp hp z=>?_⟩
 ·obtain⟨v,q⟩:=I.cell x c e;exact absurd (fH q.lt (by rw[z];exact hb)) (jF _)
 ·exact absurd (fH (bP (I.pin p hp).1) (by rw[z];exact hb)) (jF _)
structure zh (P:Program) (w:World) (K:Frag) (tg:Expr) (J:It) (fp:List Addr) (it:Addr) (tn:Nat->Heap->Prop):Prop where
 mem:it∈fp
 obj:∀i h,tn i h->∀b∈fp,∃o,h.get? b=some o/\∀v,o.data≠.cell v
 keep:∀i h h',tn i h->(∀b∈fp,∀o,h.get? b=some o->h'.get? b=some o)->tn i h'
 item:∀(X:Cx),X.prog=P->X.w=w->X.K=K->X.calm=true->∀(i:Nat)(ae:List (Addr×Obj))(s:Shared)(σ:St)(H:Hp)(E:Value->Shared->Prop),Inv X ae σ H s->(∀b∈fp,lS X ae H b)->tn i s.heap->J.go i H ->
  wpAny (model P w) X.A (pyNext (.ref it)) (λr s1=>∃u,r=some u /\
   wpAny (model P w) X.A (letOwnedTupleGo tg (.ref it) u) (λ_ s2=>∃x H',Inv X ae σ H' s2/\RelV x u/\J.NB i H x H'/\tn (i+1) s2.heap/\∀b∈fp,H' b=none) E s1) E s
 done:∀(X:Cx),X.prog=P->X.w=w->X.K=K->X.calm=true->∀(i:Nat)(ae:List (Addr×Obj))(s:Shared)(σ:St)(H:Hp)(E:Value->Shared->Prop),Inv X ae σ H s->(∀b∈fp,lS X ae H b)->tn i s.heap->J.stop i H ->
  wpAny (model P w) X.A (pyNext (.ref it)) (λr s1=>r=none/\Inv X ae σ H s1) E s
 self:∀(A:Around)(i:Nat)(s:Shared)(Q:Value->Shared->Prop)(E:Value->Shared->Prop),tn i s.heap->Q (.ref it) s->wpAny (model P w) A (pyIter (.ref it)) Q E s
abbrev TI:=St->Hp->(It->Hp->Prop)->Prop
def WC(X:Cx)(ae:List (Addr×Obj))(σ:St)(tg:Expr)(R:It->Hp->Prop)(R0:Value)(s2:Shared):Prop :=
 ∃(it:Addr) (fp:List Addr) (tn:Nat->Heap->Prop) (J:It) (H':Hp),R0=.ref it/\Inv X ae σ H' s2/\zh X.prog X.w X.K tg J fp it tn/\tn 0 s2.heap/\(∀b∈fp,lS X ae H' b)/\R J H'
def PI(X:Cx)(tg aK:Expr)(wi:TI):Prop :=
 ∀(ae:List (Addr×Obj))(s:Shared)(σ:St)(H:Hp)(R:It->Hp->Prop),Inv X ae σ H s->wi σ H R ->
  wpAny (model X.prog X.w) X.A (eval aK X.env) (λv s1=>wpAny (model X.prog X.w) X.A (pyIter v) (WC X ae σ tg R) X.xe s1) X.xe s
theorem Bt{M:Model}{A:Around}{E:Value->Shared->Prop}{s:Shared}{tg:Expr}{it:Addr}{u:Value}{o:Obj}{n:String}{vs:Array Value}{Q:Unit->Shared->Prop}(ho:s.heap.get? it=some o)(hc:o.cls=.type n)(hd:o.data=.fields vs) (hn:["enumerate","zip","dict_itemiterator","dict_reverseitemiterator","odict_iterator","itertools.zip_longest","itertools.pairwise"].contains n=false) (hQ:Q () s):wpAny M A (letOwnedTupleGo tg (.ref it) u) Q E s:=by
  unfold letOwnedTupleGo
  cases tg<;>first
    | exact aO hQ
    | (cases u <;> first
        | exact aO hQ
        | (refine aj (wpAny_load ho ?_)
           rw[hc,hd];show wpAny M A (if (["enumerate","zip","dict_itemiterator","dict_reverseitemiterator","odict_iterator","itertools.zip_longest","itertools.pairwise"].contains n&&vs[0]? == some (rawInt _))=true then _ else _) Q E s;rw[aP (by intro h;rw[hn,Bool.false_and]at h;cases h)];exact aO hQ))
def T6(K:Frag)(a:Addr):It :=
 ⟨λi H=>∃xs x,fN K H a xs/\xs[i]?=some x,λi H x H'=>H'=H/\∀xs,fN K H a xs->xs[i]?=some x,λi H=>∃xs,fN K H a xs/\xs.length<=i⟩
def T7(K:Frag)(a:Addr):It :=
 ⟨λi H=>∃xs x,gx K H a xs/\xs[i]?=some x,λi H x H'=>H'=H/\∀xs,gx K H a xs->xs[i]?=some x,λi H=>∃xs,gx K H a xs/\xs.length<=i⟩
noncomputable def R1(lo:Int)(n:Nat):It:=⟨λi _=>i<n,λi H x H'=>H'=H/\x=.int (lo+i),λi _=>n<=i⟩
theorem zi{P:Program}{w:World}{K:Frag}{tg:Expr}(a it:Addr):zh P w K tg (T6 K a) [it] it (λi h=>h.IsListIter it a i) where
 mem:=by simp
 obj:=λi h st b hb=>by
  have e:b=it:=by simpa using hb
  subst e;obtain⟨o,e,c,d⟩:=st;exact⟨o,e,λv z=>by rw[d]at z;cases z⟩
 keep:=λi h h' st k=>st.at λo e=>k it (by simp) o e
 item:=by
  intro X hP hw hK hc i ae s σ H E I hf st hg;subst hP hw hK;obtain⟨xs,x,hq,hx⟩:=hg;obtain⟨aA,rv,p,hz⟩:=I.list hq;obtain⟨u,hu,ru⟩:=rv.get hx;obtain⟨f0,f1,f2,f3,f4,f5⟩:=hf it (by simp);refine wpAny_pyNext_list_item st p.isList (x:=u) (by simpa using hu) λh' HW sb=>?_;have I1:Inv X ae σ H {s with heap:=h'}:=I.turned (t':=s.toks) (λb o hb e=>(sb.2 b hb).trans e) f0 f1 f3 f4 f5;obtain⟨o,e,c,d⟩:=id HW;exact⟨u,rfl,Bt (s:={s with heap:=h'}) e c d (by decide) ⟨x,H,I1,ru,⟨rfl,λys hy=>by rw[I.sX hy hq];exact hx⟩,HW,λb hb=>(hf b hb).1⟩⟩
 done:=by
  intro X hP hw hK hc i ae s σ H E I hf st hg;subst hP hw hK;obtain⟨xs,hq,hx⟩:=hg;obtain⟨aA,rv,p,hz⟩:=I.list hq;obtain⟨f0,f1,f2,f3,f4,f5⟩:=hf it (by simp);have hl:=rv.length;exact wpAny_pyNext_list_end (I.ok.hd hc) st p.isList (by simp;omega) λh' eb=>⟨rfl,I.turned (t':=s.toks) (λb o hb e=>eb b o hb e) f0 f1 f3 f4 f5⟩
 self:=λ_ _ _ _ _ st h=>wpAny_pyIter_listiter st h
theorem vG{P:Program}{w:World}{K:Frag}{tg:Expr}(a it:Addr):zh P w K tg (T7 K a) [it] it (λi h=>h.IsTupleIter it a i) where
 mem:=by simp
 obj:=λi h st b hb=>by
  have e:b=it:=by simpa using hb
  subst e;obtain⟨o,e,c,d⟩:=st;exact⟨o,e,λv z=>by rw[d]at z;cases z⟩
 keep:=λi h h' st k=>st.at λo e=>k it (by simp) o e
 item:=by
  intro X hP hw hK hc i ae s σ H E I hf st hg;subst hP hw hK;obtain⟨xs,x,hq,hx⟩:=hg;obtain⟨aA,rv,p,hz⟩:=I.tuple hq;obtain⟨u,hu,ru⟩:=rv.get hx;obtain⟨f0,f1,f2,f3,f4,f5⟩:=hf it (by simp);refine wpAny_pyNext_tuple_item st (show s.heap.IsTuple a aA.toArray from p) (x:=u) (by simpa using hu) λh' HW sb=>?_;have I1:Inv X ae σ H {s with heap:=h'}:=I.turned (t':=s.toks) (λb o hb e=>(sb.2 b hb).trans e) f0 f1 f3 f4 f5;obtain⟨o,e,c,d⟩:=id HW;exact⟨u,rfl,Bt (s:={s with heap:=h'}) e c d (by decide) ⟨x,H,I1,ru,⟨rfl,λys hy=>by rw[I.pf hy hq];exact hx⟩,HW,λb hb=>(hf b hb).1⟩⟩
 done:=by
  intro X hP hw hK hc i ae s σ H E I hf st hg;subst hP hw hK;obtain⟨xs,hq,hx⟩:=hg;obtain⟨aA,rv,p,hz⟩:=I.tuple hq;obtain⟨f0,f1,f2,f3,f4,f5⟩:=hf it (by simp);have hl:=rv.length;exact wpAny_pyNext_tuple_end (I.ok.hd hc) st (show s.heap.IsTuple a aA.toArray from p) (by simp;omega) λh' eb=>⟨rfl,I.turned (t':=s.toks) (λb o hb e=>eb b o hb e) f0 f1 f3 f4 f5⟩
 self:=λ_ _ _ _ _ st h=>wpAny_pyIter_tupleiter st h
theorem vH{P:Program}{w:World}{K:Frag}{tg:Expr}(it:Addr)(lo:Int)(n:Nat):zh P w K tg (R1 lo n) [it] it (λi h=>IsRangeIter h it (lo+(i:Nat)*1) ((n:Int)-(i:Nat)) 1) where
 mem:=by simp
 obj:=λi h st b hb=>by
  have e:b=it:=by simpa using hb
  subst e
  exact⟨_,st,λv z=>by
   have z':Data.fields _=Data.cell v:=z;cases z'⟩
 keep:=λi h h' st k=>k it (by simp) _ st
 item:=by
  intro X hP hw hK hc i ae s σ H E I hf st hg;subst hP hw hK;obtain⟨f0,f1,f2,f3,f4,f5⟩:=hf it (by simp);have W:=Walks.range (prog:=X.prog) (w:=X.w) (I.ok.hd hc) it lo 1 n;refine W.item i s _ _ hg st λv h' tk hv HW kk=>?_;obtain⟨t,rfl⟩:=hv;have I1:Inv X ae σ H {s with heap:=h',toks:=tk}:=I.turned (λb o hb e=>kk b o (by simpa using hb) e) f0 f1 f3 f4 f5;refine⟨_,rfl,Bt (s:={s with heap:=h',toks:=tk}) (n := "range_iterator") HW rfl rfl (by decide) ⟨.int (lo+i),H,I1,⟨t,?_⟩,⟨rfl,rfl⟩,HW,λb hb=>(hf b hb).1⟩⟩;rw[Int.mul_one]
 done:=by
  intro X hP hw hK hc i ae s σ H E I hf st hg;subst hP hw hK;obtain⟨f0,f1,f2,f3,f4,f5⟩:=hf it (by simp);exact wpAny_pyNext_range_end (I.ok.hd hc) st (by have:n<=i:=hg;omega) λh' eb=>⟨rfl,I.turned (t':=s.toks) (λb o hb e=>eb b o hb e) f0 f1 f3 f4 f5⟩
 self:=λ_ _ _ _ _ st h=>wpAny_pyIter_rangeiter st h
section
variable {X:Cx} {tg:Expr}
def OT(K:Frag)(tl:TE):TI:=λσ H R=>tl σ H λx H1=>∃a,x=.ref a/\(∃xs,fN K H1 a xs)/\R (T6 K a) H1
def T8(K:Frag)(tl:TE):TI:=λσ H R=>tl σ H λx H1=>∃a,x=.ref a/\(∃xs,gx K H1 a xs)/\R (T7 K a) H1
theorem qz{l:Expr}{tl:TE}(hl:PE X l tl):PI X tg l (OT X.K tl):=by
 intro ae s σ H R I h;refine bX (hl ae s σ H _ I h) ?_;rintro v s1 ⟨x,H1,I1,r1,q1⟩;obtain⟨a,e,⟨xs,hq⟩,q⟩:=q1;subst e;cases r1;obtain⟨aA,rv,p,hz⟩:=I1.list hq;refine wpAny_pyIter_list p.isList ?_;refine⟨s1.heap.objs.size,[s1.heap.objs.size],_,_,H1,rfl,I1.kept (t':=s1.toks) λb o e=>cI _ e,zi a _,⟨_,gX _ rfl,rfl,rfl⟩,λb hb=>?_,q⟩;have e:b=s1.heap.objs.size:=by simpa using hb
 subst e;exact I1.Bs (aE _) (I1.bw.fresh (aE _))
theorem Bu{l:Expr}{tl:TE}(hl:PE X l tl):PI X tg l (T8 X.K tl):=by
 intro ae s σ H R I h;refine bX (hl ae s σ H _ I h) ?_;rintro v s1 ⟨x,H1,I1,r1,q1⟩;obtain⟨a,e,⟨xs,hq⟩,q⟩:=q1;subst e;cases r1;obtain⟨aA,rv,p,hz⟩:=I1.tuple hq;refine wpAny_pyIter_tuple (show s1.heap.IsTuple a aA.toArray from p) ?_;refine⟨s1.heap.objs.size,[s1.heap.objs.size],_,_,H1,rfl,I1.kept (t':=s1.toks) λb o e=>cI _ e,vG a _,⟨_,gX _ rfl,rfl,rfl⟩,λb hb=>?_,q⟩;have e:b=s1.heap.objs.size:=by simpa using hb
 subst e;exact I1.Bs (aE _) (I1.bw.fresh (aE _))
theorem Bv{ae:List (Addr×Obj)}{σ:St}{H:Hp}{s:Shared}{R:It->Hp->Prop}{E:Value->Shared->Prop}{lo hi:Int}{t u v:Tok}{tk:Nat}(I:Inv X ae σ H s)(h1:-(2 ^ 62)<=lo)(h2:lo<2 ^ 62)(h3:-(2 ^ 62)<=hi)(h4:hi<2 ^ 62)(q:R (R1 lo (hi-lo).toNat) H):wpAny (model X.prog X.w) X.A (pyIter (.ref s.heap.objs.size)) (WC X ae σ tg R) E {s with heap:=s.heap.push {cls:=.type "range",data:=.fields #[.int lo t,.int hi u,.int 1 v]},toks:=tk}:=by
 refine wpAny_pyIter_range (IsRange.new ..) (small_one h1 h2 h3 h4) ?_;have I1:Inv X ae σ H {s with heap:=s.heap.push {cls:=.type "range",data:=.fields #[.int lo t,.int hi u,.int 1 v]},toks:=tk}:=I.kept λb o e=>cI _ e
 refine⟨(s.heap.push {cls:=.type "range",data:=.fields #[.int lo t,.int hi u,.int 1 v]}).objs.size,[(s.heap.push {cls:=.type "range",data:=.fields #[.int lo t,.int hi u,.int 1 v]}).objs.size],_,_,H,rfl,
  I1.kept (t':=tk) λb o e=>cI _ e,vH _ lo (hi-lo).toNat,?_,λb hb=>?_,q⟩
 ·have e1:lo+((0:Nat):Int)*1=lo:=by simp
  have e2:(((hi-lo).toNat:Nat):Int)-((0:Nat):Int)=Builtin.Range.rangeSize lo hi 1:=by rw[rangeSize_one];split<;>omega
  show IsRangeIter _ _ (lo+((0:Nat):Int)*1) ((((hi-lo).toNat:Nat):Int)-((0:Nat):Int)) 1;rw[e1,e2];exact gX _ rfl
 ·have e:b=(s.heap.push {cls:=.type "range",data:=.fields #[.int lo t,.int hi u,.int 1 v]}).objs.size:=by simpa using hb
  subst e;exact I1.Bs (aE _) (I1.bw.fresh (aE _))
def OU(ta:TA):TI:=λσ H R=>ta σ H λvs H1=>∃j:Int,vs=[.int j]/\-(2 ^ 62)<=j/\j<2 ^ 62/\R (R1 0 j.toNat) H1
theorem zj{a:Expr}{ta:TA}{p pos:Pos} (hg:Gl X "range") (hm:X.mg "range" = none) (ha:PA X [a] ta) (hs:starEach [a] X.env=[(false,eval a X.env)]:=by rfl):PI X tg (.Call (.Name "range" p) [a] [] pos) (OU ta):=by
 intro ae s σ H R I h;refine Call_ (mP I hg hm boot_range (Jg (bX (ha pos ae s σ H _ I h) ?_) hs rfl));rintro us s1 ⟨vs,H1,I1,r1,q1⟩;obtain⟨j,e,q1,q2,q⟩:=q1;subst e
 cases r1 with
 | cons r rr =>
  cases rr;obtain⟨t,rfl⟩:=r;exact call_range_1 (Bv I1 ∅ ∅ q1 q2 (by simpa using q))
noncomputable def T9(wi:TI)(g:TG)(tb:TS):TS:=λD σ H=>wi σ H λJ H1=>∃W:Nat->Nat->St->Hp->Prop,(∃m,W 0 m σ H1)/\∀i m σ H,W i m σ H ->
 (J.stop i H/\D.nx σ H)\/(J.go i H/\∃N:St->Hp->Prop,(∀cY H',N cY H'->∃m',m'<m/\W (i+1) m' cY H')/\∀x H',J.NB i H x H'->g x σ H' λFe H2=>tb {D with nx:=N,ct:=N,bk:=D.nx} Fe H2)
noncomputable def kN(fp:List Addr)(h:Heap):List (Addr×Obj):=fp.filterMap λb=>(h.get? b).map λo=>(b,o)
theorem gz{fp:List Addr}{h:Heap}{b:Addr}{o:Obj}(hb:b∈fp)(e:h.get? b=some o):(b,o)∈kN fp h:=List.mem_filterMap.mpr ⟨b,hb,by rw[e];rfl⟩
theorem zk{fp:List Addr}{h:Heap}{p:Addr×Obj}(hp:p∈kN fp h):p.1∈fp/\h.get? p.1=some p.2:=by
 obtain⟨b,hb,e⟩:=List.mem_filterMap.mp hp
 cases q:h.get? b with
 | none=>rw[q]at e;cases e
 | some o =>
  rw[q]at e;have e':(b,o)=p:=cR e;subst e';exact⟨hb,q⟩
theorem Inv.pinned{ae:List (Addr×Obj)}{σ:St}{H:Hp}{s:Shared}{fp:List Addr}(I:Inv X ae σ H s)(hf:∀b∈fp,lS X ae H b)(ho:∀b∈fp,∃o,s.heap.get? b=some o/\∀v,o.data≠.cell v):Inv X (ae++kN fp s.heap) σ H s :=
 I.qt λp hp=>(eV.mp hp).elim (λz=>I.pin p (lO _ z)) λz=>by
  obtain⟨hb,e⟩:=zk z;obtain⟨f0,f1,f2,_⟩:=hf p.1 hb;obtain⟨o,e',d⟩:=ho p.1 hb;rw[e]at e';cases e';exact⟨e,f0,f1,f2,d⟩
theorem Inv.hU{ae pl:List (Addr×Obj)}{σ:St}{H:Hp}{s:Shared}(I:Inv X (ae++pl) σ H s):Inv X ae σ H s:=I.qt λp hp=>I.pin p (lO _ (EH _ hp))
theorem JZ{aK:Expr}{body:List Stmt}{wi:TI}{g:TG}{tb:TS}{pos:Pos}(hp:PassesOwn (model X.prog X.w) X.A X.env X.xe)(hc:X.calm=true)(hi:PI X tg aK wi)(hg:PG X tg g)(hb:pe X body tb)(hs:∀x,foldedSetIterable aK X.env x=pure x:=by intro _;rfl):PS X (.For tg aK body [] pos) (T9 wi g tb):=by
 intro ae s σ H D I h;refine wpAny_For (bX (hi ae s σ H _ I h) λv s1 h1=>bX h1 λR0 s2 h2=>?_) hs;obtain⟨it,fp,tn,J,H2,e,I2,T,Ff,f2,W,⟨m0,w0⟩,Bw⟩:=h2;subst e;have J0:∀{H':Hp},(∀b∈fp,H' b=none)->∀b∈fp,lS X ae H' b:=λhn b hb=>⟨hn b hb,(f2 b hb).2⟩;refine codeAny_forLoop_any (λn s'=>∃i cY H',Inv X ae cY H' s'/\tn i s'.heap/\(∀b∈fp,H' b=none)/\W i n cY H') ?_ m0 ⟨0,σ,H2,I2,Ff,λb hb=>(f2 b hb).1,w0⟩;rintro n s3 ⟨i,Fg,H3,I3,R3,Ar,w3⟩;rcases Bw i n Fg H3 w3 with⟨stop,qn⟩|⟨go,N,hN,step⟩
 ·refine AU hp (bX (T.done X rfl rfl rfl hc i ae s3 Fg H3 X.xe I3 (J0 Ar) R3 stop) ?_);rintro r s4 ⟨rfl,I4⟩;exact AS ⟨Fg,H3,I4,qn⟩
 ·refine AU hp (bX (T.item X rfl rfl rfl hc i ae s3 Fg H3 X.xe I3 (J0 Ar) R3 go) ?_);rintro r s4 ⟨u,rfl,h4⟩;refine AU hp (bX h4 ?_);rintro _ s5 ⟨x,H5,I5,r5,y5,NC,oP⟩;have YB:=I5.pinned (J0 oP) (T.obj _ _ NC);refine AU hp (bX (hg _ s5 Fg H5 x u _ YB r5 (step x H5 y5)) ?_);rintro _ s6 ⟨YC,H6,I6,q6⟩;refine AU hp (bX (hb _ s6 YC H6 _ I6 q6) λf s7 q7=>?_)
  have again:∀{Bx:St}{H7:Hp},Inv X (ae++kN fp s5.heap) Bx H7 s7->N Bx H7->∃m,m<n/\∃i cY H',Inv X ae cY H' s7/\tn i s7.heap/\(∀b∈fp,H' b=none)/\W i m cY H':=λ{Bx H7} I7 n7=>by
   obtain⟨m',hm,w7⟩:=hN Bx H7 n7;refine⟨m',hm,i+1,Bx,H7,I7.hU,T.keep _ _ _ NC λb hb o e=>(I7.pin (b,o) (lO _ (lO _ (gz hb e)))).1,λb hb=>?_,w7⟩;obtain⟨o,e,d⟩:=T.obj _ _ NC b hb;exact(I7.pin (b,o) (lO _ (lO _ (gz hb e)))).2.1
  cases f with
  | next=>obtain⟨Bx,H7,I7,n7⟩:=q7;exact again I7 n7
  | cont=>obtain⟨Bx,H7,I7,n7⟩:=q7;exact again I7 n7
  | brk=>obtain⟨Bx,H7,I7,q7⟩:=q7;exact⟨Bx,H7,I7.hU,q7⟩
  | ret v=>obtain⟨x7,Bx,H7,I7,r7,q7⟩:=q7;exact⟨x7,Bx,H7,I7.hU,r7,q7⟩
end
abbrev R2:=V->V->Hp->VK->Prop
def iO(X:Cx)(f:Value->Value->Sem Value)(r:R2):Prop :=
 ∀(ae:List (Addr×Obj))(s:Shared)(σ:St)(H:Hp)(x y:V)(v u:Value)(Q:VK),Inv X ae σ H s->RelV x v->RelV y u->r x y H Q ->
  wpAny (model X.prog X.w) X.A (f v u) (EP X ae σ Q) X.xe s
def T_(X:Cx)(f:Value->Sem Value)(r:V->Hp->VK->Prop):Prop :=
 ∀(ae:List (Addr×Obj))(s:Shared)(σ:St)(H:Hp)(x:V)(v:Value)(Q:VK),Inv X ae σ H s->RelV x v->r x H Q ->
  wpAny (model X.prog X.w) X.A (f v) (EP X ae σ Q) X.xe s
def dW(X:Cx)(f:Value)(r:List V->Hp->VK->Prop):Prop :=
 ∀(ae:List (Addr×Obj))(s:Shared)(σ:St)(H:Hp)(xs:List V)(us:List Value)(Q:VK),Inv X ae σ H s->aQ xs us->r xs H Q ->
  wpAny (model X.prog X.w) X.A (call f us) (EP X ae σ Q) X.xe s
def Ua(X:Cx)(r:V->Hp->(Bool->Hp->Prop)->Prop):Prop :=
 ∀(ae:List (Addr×Obj))(s:Shared)(σ:St)(H:Hp)(x:V)(v:Value)(Q:Bool->Hp->Prop),Inv X ae σ H s->RelV x v->r x H Q ->
  wpAny (model X.prog X.w) X.A (truthy v) (TP X ae σ Q) X.xe s
noncomputable def Fh(r:R2)(ta tb:TE):TE:=λσ H Q=>ta σ H λx H1=>tb σ H1 λy H2=>r x y H2 Q
noncomputable def YD(r:V->Hp->VK->Prop)(ta:TE):TE:=λσ H Q=>ta σ H λx H1=>r x H1 Q
noncomputable def rI(C:Int->Int->Prop)(g:Int->Int->V):R2:=λx y H Q=>∃i j,x=.int i/\y=.int j/\C i j/\Q (g i j) H
noncomputable def HX(g:Int->Int->V):R2:=λx y H Q=>∃i j,x=.int i/\y=.int j/\Q (g i j) H
noncomputable def rU(g:Int->V):V->Hp->VK->Prop:=λx H Q=>∃i,x=.int i/\Q (g i) H
section
variable {X:Cx} {a b c:Expr} {ta tb tc:TE} {pos:Pos}
theorem J1(ha:PE X a ta)(hb:PE X b tb){ae:List (Addr×Obj)}{s:Shared}{σ:St}{H:Hp}{R:V->V->Hp->Prop}(I:Inv X ae σ H s)(h:ta σ H λx H1=>tb σ H1 λy H2=>R x y H2){Q:Value->Shared->Prop}{f:Value->Value->Sem Value}(hf:∀v u s2 x y H2,Inv X ae σ H2 s2->RelV x v->RelV y u->R x y H2->wpAny (model X.prog X.w) X.A (f v u) Q X.xe s2):wpAny (model X.prog X.w) X.A (eval a X.env) (λv br=>wpAny (model X.prog X.w) X.A (eval b X.env) (λu zf=>wpAny (model X.prog X.w) X.A (f v u) Q X.xe zf) X.xe br) X.xe s:=by
 refine bX (ha ae s σ H _ I h) ?_;rintro v s1 ⟨x,H1,I1,r1,q1⟩;refine bX (hb ae s1 σ H1 _ I1 q1) ?_;rintro u s2 ⟨y,H2,I2,r2,q2⟩;exact hf v u s2 x y H2 I2 r1 r2 q2
theorem OV{op:Operator}{r:R2}(ho:iO X (binaryOp op) r)(ha:PE X a ta)(hb:PE X b tb):PE X (.BinOp a op b pos) (Fh r ta tb):=by
 intro ae s σ H Q I h;exact wpAny_BinOp (J1 ha hb I h λv u s2 x y H2 I2 rx ry q=>ho ae s2 σ H2 x y v u Q I2 rx ry q)
theorem HY{op:UnaryOp}{r:V->Hp->VK->Prop}(ho:T_ X (unaryOp op) r)(ha:PE X a ta):PE X (.UnaryOp op a pos) (YD r ta):=by
 intro ae s σ H Q I h;exact UnaryOp_ (bX (ha ae s σ H _ I h) λv s1 ⟨x,H1,I1,r1,q1⟩=>ho ae s1 σ H1 x v Q I1 r1 q1)
theorem R4{f:Value->Value->Sem Value}{C:Int->Int->Prop}{g:Int->Int->Int}(rule:∀(i j:Int)(t u:Tok)(s:Shared)(Q:Value->Shared->Prop)(E:Value->Shared->Prop),C i j->Q (.int (g i j) s.toks) {s with toks:=s.toks+1}->wpAny (model X.prog X.w) X.A (f (.int i t) (.int j u)) Q E s):iO X f (rI C λi j=>.int (g i j)):=by
 intro ae s σ H x y v u Q I rx ry h;obtain⟨i,j,rfl,rfl,hc,q⟩:=h;obtain⟨t,rfl⟩:=rx;obtain⟨t',rfl⟩:=ry;exact rule i j t t' s _ _ hc ⟨.int (g i j),H,I.tok _,⟨_,rfl⟩,q⟩
theorem OW{f:Value->Value->Sem Value}{g:Int->Int->Int}(rule:∀(i j:Int)(t u:Tok)(s:Shared)(Q:Value->Shared->Prop)(E:Value->Shared->Prop),Q (.int (g i j) s.toks) {s with toks:=s.toks+1}->wpAny (model X.prog X.w) X.A (f (.int i t) (.int j u)) Q E s):iO X f (HX λi j=>.int (g i j)):=by
 intro ae s σ H x y v u Q I rx ry h;obtain⟨i,j,rfl,rfl,q⟩:=h;obtain⟨t,rfl⟩:=rx;obtain⟨t',rfl⟩:=ry;exact rule i j t t' s _ _ ⟨.int (g i j),H,I.tok _,⟨_,rfl⟩,q⟩
theorem Fi{f:Value->Value->Sem Value}{g:Int->Int->Bool}(rule:∀(i j:Int)(t u:Tok)(s:Shared)(Q:Value->Shared->Prop)(E:Value->Shared->Prop),Q (.bool (g i j)) s->wpAny (model X.prog X.w) X.A (f (.int i t) (.int j u)) Q E s):iO X f (HX λi j=>.bl (g i j)):=by
 intro ae s σ H x y v u Q I rx ry h;obtain⟨i,j,rfl,rfl,q⟩:=h;obtain⟨t,rfl⟩:=rx;obtain⟨t',rfl⟩:=ry;exact rule i j t t' s _ _ ⟨.bl (g i j),H,I,rfl,q⟩
def Ub(i j:Int):Prop:=0<j/\j<1073741824
def Uc(i j:Int):Prop:=0<=j/\j<=1000000/\i.natAbs<2 ^ 64
noncomputable def J2(i j:Int):Prop:=(-(2 ^ 64)<i/\i<2 ^ 64)\/(-(2 ^ 64)<j/\j<2 ^ 64)
theorem J2.ok{i j:Int}(h:J2 i j):IntMulOk i j:=by
 rcases h with⟨h1,h2⟩|⟨h1,h2⟩
 ·exact .of_left (intBits_le_64 h1 h2)
 ·exact .of_right (intBits_le_64 h1 h2)
theorem J3:iO X (binaryOp .Add) (HX λi j=>.int (i+j)):=OW λ_ _ _ _ _ _ _ q=>add_int q
theorem J4:iO X (binaryOp .Sub) (HX λi j=>.int (i-j)):=OW λ_ _ _ _ _ _ _ q=>sub_int q
theorem J5:iO X (binaryOp .Mult) (rI J2 λi j=>.int (i*j)):=R4 λ_ _ _ _ _ _ _ hc q=>mul_int q hc.ok
theorem Fj:iO X (binaryOp .FloorDiv) (rI Ub λi j=>.int (i / j)):=R4 λi j _ _ _ _ _ hc q=>by
 have h1:(0:Int)<j:=hc.1;have h2:j<1073741824:=hc.2;exact floordiv_int ∅ (by rw[Int.fdiv_eq_ediv_of_nonneg i ∅];exact q) (.inl (PyProof.noPylong_small ∅))
theorem J6:iO X (binaryOp .Mod) (rI (λ_ j=>0<j) λi j=>.int (i % j)):=R4 λi j _ _ _ _ _ hc q=>by
 have h1:(0:Int)<j:=hc;exact mod_int' ∅ (by rw[Int.fmod_eq_emod_of_nonneg i ∅];exact q)
theorem J7:iO X (binaryOp .Pow) (rI Uc λi j=>.int (i ^ j.toNat)):=R4 λ_ _ _ _ _ _ _ hc q=>pow_int_small hc.1 hc.2.1 hc.2.2 q
theorem YE{f:Value->Sem Value}{g:Int->Int}(rule:∀(i:Int)(t:Tok)(s:Shared)(Q:Value->Shared->Prop)(E:Value->Shared->Prop),Q (.int (g i) s.toks) {s with toks:=s.toks+1}->wpAny (model X.prog X.w) X.A (f (.int i t)) Q E s):T_ X f (rU λi=>.int (g i)):=by
 intro ae s σ H x v Q I rx h;obtain⟨i,rfl,q⟩:=h;obtain⟨t,rfl⟩:=rx;exact rule i t s _ _ ⟨.int (g i),H,I.tok _,⟨_,rfl⟩,q⟩
theorem By:T_ X (unaryOp .USub) (rU λi=>.int (-i)):=YE λ_ _ _ _ _ q=>neg_int q
end
section
variable {X:Cx} {a b c:Expr} {ta tb tc:TE} {pos:Pos}
theorem mQ{ae:List (Addr×Obj)}{σ:St}{H:Hp}{s:Shared}{Q:VK}{k k':Bool}(I:Inv X ae σ H s)(q:Q (.bl k) H)(e:k=k'):EP X ae σ Q (.bool k') s:=by
 subst e;exact⟨.bl k,H,I,rfl,q⟩
theorem OX:iO X (compareOp .Lt) (HX λi j=>.bl (decide (i<j))):=Fi λ_ _ _ _ _ _ _ q=>lt_int q
theorem OY:iO X (compareOp .LtE) (HX λi j=>.bl (decide (i<=j))):=Fi λ_ _ _ _ _ _ _ q=>le_int q
theorem OZ:iO X (compareOp .Gt) (HX λi j=>.bl (decide (j<i))):=Fi λ_ _ _ _ _ _ _ q=>gt_int q
theorem O0:iO X (compareOp .GtE) (HX λi j=>.bl (decide (j<=i))):=Fi λ_ _ _ _ _ _ _ q=>ge_int q
theorem zl:iO X (compareOp .Lt) (λx y H Q=>∃i j,x=.str i/\y=.str j/\Q (.bl (decide (i.cps.toList<j.cps.toList))) H):=by
 intro ae s σ H x y v u Q I rx ry h;obtain⟨i,j,rfl,rfl,q⟩:=h;obtain⟨t,rfl⟩:=rx;obtain⟨t',rfl⟩:=ry;exact lt_str (mQ I q rfl)
theorem J8:iO X (compareOp .Is) (λx y H Q=>y=.aL/\Q (.bl (decide (x=.aL))) H):=by
 intro ae s σ H x y v u Q I rx ry h;obtain⟨rfl,q⟩:=h;cases ry;refine is_none_gen (mQ I q ?_)
 cases x<;>first
  | (cases rx;rfl)
  | (obtain⟨t,rfl⟩:=rx;rfl)
theorem Fl:iO X (compareOp .IsNot) (λx y H Q=>y=.aL/\Q (.bl (!decide (x=.aL))) H):=by
 intro ae s σ H x y v u Q I rx ry h;obtain⟨rfl,q⟩:=h;cases ry;refine isnot_none_gen (mQ I q ?_)
 cases x<;>first
  | (cases rx;rfl)
  | (obtain⟨t,rfl⟩:=rx;rfl)
theorem qA{op:CmpOp}{r:R2}(ho:iO X (compareOp op) r)(ha:PE X a ta)(hb:PE X b tb)(hm:behindInMarks op b=false):PE X (.Compare a [op] [b] pos) (Fh r ta tb):=by
 intro ae s σ H Q I h;exact wpAny_Compare1 (J1 ha hb I h λv u s2 x y H2 I2 rx ry q=>ho ae s2 σ H2 x y v u Q I2 rx ry q) hm
noncomputable def jL(t:TE):TT:=λσ H Q=>t σ H λx H'=>∃k,x=.bl k/\Q k H'
theorem qB{op:CmpOp}{r:R2}(ho:iO X (compareOp op) r)(ha:PE X a ta)(hb:PE X b tb)(hm:behindInMarks op b=false):PT X (.Compare a [op] [b] pos) (jL (Fh r ta tb)):=by
 intro ae s σ H Q I h
 refine wpAny_isTrue_Compare1 (bX (ha ae s σ H _ I h) λv s1 ⟨x,H1,I1,r1,q1⟩=>bX (hb ae s1 σ H1 _ I1 q1) λu s2 ⟨y,H2,I2,r2,q2⟩ =>
  bX (ho ae s2 σ H2 x y v u _ I2 r1 r2 q2) λc s3 ⟨z,H3,I3,r3,k,e,q3⟩=>?_) hm
 subst e;cases r3;exact qh ⟨H3,I3,q3⟩
noncomputable def vI(r r':R2)(ta tb tc:TE):TE:=λσ H Q=>ta σ H λx H1=>tb σ H1 λy H2=>r x y H2 λz H3=>∃k,z=.bl k /\
 (if k=true then tc σ H3 λw' H4=>r' y w' H4 Q else Q (.bl false) H3)
theorem Bz{op J9:CmpOp}{r r':R2}(ho:iO X (compareOp op) r)(xx:iO X (compareOp J9) r')(ha:PE X a ta)(hb:PE X b tb)(hc:PE X c tc)(hm:lastMarks [op,J9] [b,c]=false:=by with_unfolding_all rfl):PE X (.Compare a [op,J9] [b,c] pos) (vI r r' ta tb tc):=by
 intro ae s σ H Q I h
 refine Compare_chain (bX (ha ae s σ H _ I h) λv s1 ⟨x,H1,I1,r1,q1⟩=>chain_link (bX (hb ae s1 σ H1 _ I1 q1) λu s2 ⟨y,H2,I2,r2,q2⟩ =>
  bX (ho ae s2 σ H2 x y v u _ I2 r1 r2 q2) λd s3 ⟨z,H3,I3,r3,k,e,q3⟩=>?_)) hm
 subst e;cases r3;refine qh ?_
 cases k with
 | false=>exact ite_ff ⟨.bl false,H3,I3,rfl,q3⟩
 | true=>exact ite_tt (chain_last (bX (hc ae s3 σ H3 _ I3 q3) λw' s4 ⟨z',H4,I4,r4,q4⟩=>xx ae s4 σ H4 y z' u w' Q I4 r2 r4 q4))
theorem BA{op J9:CmpOp}{r r':R2}(ho:iO X (compareOp op) r)(xx:iO X (compareOp J9) r')(ha:PE X a ta)(hb:PE X b tb)(hc:PE X c tc)(hm:lastMarks [op,J9] [b,c]=false:=by with_unfolding_all rfl):PT X (.Compare a [op,J9] [b,c] pos) (jL (vI r r' ta tb tc)):=by
 intro ae s σ H Q I h
 refine isTrue_chain (bX (ha ae s σ H _ I h) λv s1 ⟨x,H1,I1,r1,q1⟩=>test_link (bX (hb ae s1 σ H1 _ I1 q1) λu s2 ⟨y,H2,I2,r2,q2⟩ =>
  bX (ho ae s2 σ H2 x y v u _ I2 r1 r2 q2) λd s3 ⟨z,H3,I3,r3,k,e,q3⟩=>?_)) hm
 subst e;cases r3;refine qh ?_
 cases k with
 | false =>
  obtain⟨k',e',q'⟩:=q3;cases e';exact ite_ff ⟨H3,I3,q'⟩
 | true =>
  refine ite_tt (test_last (bX (hc ae s3 σ H3 _ I3 q3) λw' s4 ⟨z',H4,I4,r4,q4⟩=>bX (xx ae s4 σ H4 y z' u w' _ I4 r2 r4 q4) λd' s5 ⟨z2,H5,I5,r5,k2,e2,q5⟩=>?_));subst e2;cases r5;exact qh ⟨H5,I5,q5⟩
def BB(K:Frag)(x:V)(H:Hp)(k:Bool):Prop :=
 match x with
 | .aL=>k=false
 | .bl b=>k=b
 | .int i=>k=(i != 0)
 | .str y=>y.length<=sizeLine/\k=((y.length:Int) != 0)
 | .JH y=>y.size<=sizeLine/\k=((y.size:Int) != 0)
 | .ref p=>(∃xs,fN K H p xs/\k=!xs.isEmpty)\/(∃xs,gx K H p xs/\k=!xs.isEmpty)\/∃au,H p=some (.dK au)/\k=!au.isEmpty
 | _=>False
theorem vJ{κ:Type}{au:List (κ×V)}{vs:List (κ×Value)}(r:KV au vs):(!vs.isEmpty)=!au.isEmpty:=by
 cases r<;>rfl
theorem mR{xs:List V}{aA:List Value}(r:aQ xs aA):(!aA.toArray.isEmpty)=!xs.isEmpty:=by
 cases r<;>simp
theorem jd:(sizeLine:Nat)<2 ^ 63:=by rw[sizeLine_eq];decide
theorem J_:Ua X (λx H Q=>∃k,BB X.K x H k/\Q k H):=by
 intro ae s σ H x v Q I rx h;obtain⟨k,e,q⟩:=h;have hl:=jd;have hs:sizeLine=16777216:=sizeLine_eq
 cases x with
 | aL =>
  cases rx;have e':k=false:=e;subst e';exact truthy_none ⟨H,I,q⟩
 | bl b =>
  cases rx;have e':k=b:=e;subst e';exact qh ⟨H,I,q⟩
 | int i =>
  obtain⟨t,rfl⟩:=rx;have e':k=(i != 0):=e;subst e';exact PySem.P.truthy_int ⟨H,I,q⟩
 | str y =>
  obtain⟨t,rfl⟩:=rx;obtain⟨hy,e'⟩:y.length<=sizeLine/\k=((y.length:Int) != 0):=e;subst e';exact PySem.P.truthy_str ∅ ⟨H,I.tok _,q⟩
 | JH y =>
  obtain⟨t,rfl⟩:=rx;obtain⟨hy,e'⟩:y.size<=sizeLine/\k=((y.size:Int) != 0):=e;subst e';exact PySem.W.truthy_bytes ∅ ⟨H,I.tok _,q⟩
 | ref p =>
  cases rx;have e':(∃xs,fN X.K H p xs/\k=!xs.isEmpty)\/(∃xs,gx X.K H p xs/\k=!xs.isEmpty)\/∃au,H p=some (.dK au)/\k=!au.isEmpty:=e;rcases e' with⟨xs,hx,e'⟩|⟨xs,hx,e'⟩|⟨au,hx,e'⟩
  ·subst e';obtain⟨aA,r,pl,hz⟩:=I.list hx;have aJ:=r.length;exact wpAny_truthy_list pl.isList (by simp only[df];omega) ⟨H,I.tok _,by rw[mR r];exact q⟩
  ·subst e';obtain⟨aA,r,pl,hz⟩:=I.tuple hx;have aJ:=r.length;exact truthy_tuple pl (by simp only[df];omega) ⟨H,I.tok _,by rw[mR r];exact q⟩
  ·subst e';obtain⟨hz,hS,vs,r,m⟩:au.length<=sizeLine/\(p==sysModules)=false/\∃vs,KV au vs/\s.heap.DictOf (bA X.prog X.w) p vs:=I.bw p _ hx;have aJ:au.length=vs.length:=AY r;exact wpAny_truthy_dict hS m ∅ ⟨H,I.tok _,by rw[vJ r];exact q⟩
 | _=>exact(show False from e).elim
theorem BC(ha:PE X a ta)(he:∀iN,isTrue a X.env iN=(do let v <- iN;standAt a.pos;holding [v] (truthy v))):PT X a (λσ H Q=>ta σ H λx H'=>∃k,BB X.K x H' k/\Q k H'):=by
 intro ae s σ H Q I h;exact isTrue_plain (bX (ha ae s σ H _ I h) λv s1 ⟨x,H1,I1,r1,q1⟩=>J_ ae s1 σ H1 x v Q I1 r1 q1) (he _)
theorem vals1{x:V}{us:List Value}(r:aQ [x] us):∃u,us=[u]/\RelV x u:=by
 cases r with
 | cons r1 r2=>cases r2;exact⟨_,rfl,r1⟩
theorem vals2{x y:V}{us:List Value}(r:aQ [x,y] us):∃u w',us=[u,w']/\RelV x u/\RelV y w':=by
 cases r with
 | cons r1 r2 =>
  cases r2 with
  | cons r3 r4=>cases r4;exact⟨_,_,rfl,r1,r3⟩
theorem zm(hc:X.calm=true):dW X (.builtin "max") (λxs H Q=>∃i j,xs=[.int i,.int j]/\Q (.int (if j>i then j else i)) H):=by
 intro ae s σ H xs us Q I r h;obtain⟨i,j,rfl,q⟩:=h;obtain⟨u,w',rfl,⟨t,rfl⟩,⟨t',rfl⟩⟩:=vals2 r;refine max_two_ints (I.ok.hd hc) λh' tk k=>⟨_,H,I.kept k,?_,q⟩;by_cases hj:j>i
 ·rw[aF hj,aF hj];exact⟨_,rfl⟩
 ·rw[aP hj,aP hj];exact⟨_,rfl⟩
theorem zo(hc:X.calm=true):dW X (.builtin "min") (λxs H Q=>∃i j,xs=[.int i,.int j]/\Q (.int (if j<i then j else i)) H):=by
 intro ae s σ H xs us Q I r h;obtain⟨i,j,rfl,q⟩:=h;obtain⟨u,w',rfl,⟨t,rfl⟩,⟨t',rfl⟩⟩:=vals2 r;refine min_two_ints (I.ok.hd hc) λh' tk k=>⟨_,H,I.kept k,?_,q⟩;by_cases hj:j<i
 ·rw[aF hj,aF hj];exact⟨_,rfl⟩
 ·rw[aP hj,aP hj];exact⟨_,rfl⟩
theorem ph:dW X (.type "int") (λxs H Q=>(∃i,xs=[.int i]/\Q (.int i) H)\/∃k,xs=[.bl k]/\Q (.int (if k then 1 else 0)) H):=by
 intro ae s σ H xs us Q I r h;rcases h with⟨i,rfl,q⟩|⟨k,rfl,q⟩
 ·obtain⟨u,rfl,t,rfl⟩:=vals1 r;exact call_int_int ⟨.int i,H,I,⟨_,rfl⟩,q⟩
 ·obtain⟨u,rfl,r1⟩:=vals1 r;cases r1;exact call_int_bool ⟨.int (if k then 1 else 0),H,I.tok _,⟨_,rfl⟩,q⟩
end
structure Ka (h:Heap) (x dx C:Addr) (mA:Str->Option Value):Prop where
 obj:h.get? x=some (PySem.W.instObj C dx)
 ns:h.Ns1 dx mA
 ne:dx≠x
theorem zp{h:Heap}{dx:Addr}{mA:Str->Option Value}(n:h.Ns1 dx mA):∃od,h.get? dx=some od/\∀name,PySem.W.lookIn name od=some (mA name):=by
 obtain⟨o,es,ep,ho,hd,hk,_,hm⟩:=n;refine⟨o,ho,λname=>?_⟩;have e:=hm name;unfold nsFind findBy at e;rw[<- Array.find?_toList]at e;unfold PySem.W.lookIn;rw[hd];dsimp only;split
 ·rename_i y q
  rw[q]at e;exact oN some e
 ·rename_i q
  rw[q]at e
  have a:es.toList.any (·.refKey)=false:=by
   rw[EU];intro y hy;obtain⟨z,t,Kb⟩:=hk y (Array.mem_toList_iff.mp hy);simp[DictEntry.refKey,Kb]
  have a':¬es.toList.any (·.refKey)=true:=by rw[a];exact aY
  rw[aP a'];exact oN some e
theorem Ka.look{h:Heap}{x dx C:Addr}{mA:Str->Option Value}(I:Ka h x dx C mA):∃od,PySem.W.InstAt h x (PySem.W.instObj C dx) C (some od)/\∀name,PySem.W.lookIn name od=some (mA name) :=
 let ⟨od,ho,hl⟩:=zp I.ns
 ⟨od,⟨I.obj,rfl,rfl,ho⟩,hl⟩
theorem g9.some_of{v:V}{o:Option Value}(r:g9 (some v) o):∃u,o=some u/\RelV v u:=by
 cases o with
 | none=>exact(show False from r).elim
 | some u=>exact⟨u,rfl,r⟩
theorem g9.none_of{o:Option Value}(r:g9 none o):o=none:=by
 cases o with
 | none=>rfl
 | some u=>exact(show False from r).elim
section
variable {P:Program} {w:World} {H H':Hp} {h h':Heap} {a C dx:Addr} {fs TN:List (Str×V)}
theorem Fo(bw:iJ P w H h)(e:H a=some (.ins C dx fs)):∃mA,Ka h a dx C mA/\(∀f,g9 (fs.lookup f) (mA f))/\PySem.Within mA (fs.map (·.1))/\fs.length<=1000/\H dx=some (.own a):=by
 obtain⟨d,z,ne,ob,mA,n,r,q⟩:=(show bL P w H h a (.ins C dx fs) from bw a _ e);exact⟨mA,⟨ob,n,ne⟩,r,q,z,d⟩
end
structure Ud (K:Frag) (C:Addr):Prop where
 pg:PySem.W.plainGet K C Str.empty=true
 hd:PySem.W.hasDictIn K C=true
 po:PySem.W.plainOver K C=true
 sa:PySem.W.findIn K (.ref C) "__setattr__" = some (some (.builtin "object.__setattr__"))
theorem Ud.get{K:Frag}{C:Addr}(c:Ud K C)(f:Str):PySem.W.plainGet K C f=true:=c.pg
section
variable {X:Cx} {ae:List (Addr×Obj)} {σ:St} {H:Hp} {s:Shared} {a C dx:Addr} {fs:List (Str×V)} {f:Str} {v:V} {A:Around} {E:Value->Shared->Prop}
theorem Fp{prog:Program}{w:World}{env:Env}{e:Expr}{f:Str}{pos:Pos}{s:Shared}{Q:Value->Shared->Prop}(hb:attributeBase e f env (eval e env)=eval e env)(h:wpAny (model prog w) A (eval e env) (λo br=>wpAny (model prog w) A (getAttr o f true) Q E br) E s):wpAny (model prog w) A (eval (.Attribute e f pos) env) Q E s :=
 Attribute_any_ h (by rw[arm_eval_Attribute,hb])
end
section
variable {X:Cx} {o e value:Expr} {f:Str} {pos zg YF:Pos} {ta tv:TE}
noncomputable def O1:V->V->Hp->VK->Prop:=λx y H Q=>∃i j,x=.int i/\y=.int j/\Q (.int (i-j)) H
end
section
variable {X:Cx} {ae:List (Addr×Obj)} {σ:St} {H:Hp} {s:Shared} {A:Around} {E:Value->Shared->Prop} {Q:Value->Shared->Prop} {c:Value} {b:Bool}
inductive kO (K:Frag) (H:Hp):V->Value->Prop where
  | aL:kO K H .aL (.type "NoneType")
  | bl (x:Bool):kO K H (.bl x) (.type "bool")
  | int (i:Int):kO K H (.int i) (.type "int")
  | str (x:Str):kO K H (.str x) (.type "str")
  | HN (x:UInt64):kO K H (.HN x) (.type "float")
  | lst {a:Addr} {xs:List V} (e:H a=some (.lst xs)):kO K H (.ref a) (.type "list")
  | gW {a:Addr} {o:Obj} {xs:List V} (e:H a=some (.gW o (.lst xs))):kO K H (.ref a) (.type "list")
  | tup {a:Addr} {xs:List V} (e:H a=some (.tup xs)):kO K H (.ref a) (.type "tuple")
  | dK {a:Addr} {au:List (bD×V)} (e:H a=some (.dK au)):kO K H (.ref a) (.type "dict")
  | dT {a:Addr} {au:List (List bD×V)} (e:H a=some (.dT au)):kO K H (.ref a) (.type "dict")
  | ins {a C dx : Addr} {fs : List (Str × V)} (e : H a = some (.ins C dx fs)) (cl : Ud K C) (ha : PySem.W.findIn K (.ref C) "__class__" = some (some (.builtin "object.__class__")))
      (hn:PySem.W.specialIn K (.builtin "object.__class__") "__get__" = some (some (.builtin "getset_descriptor.__get__"))) (Eh:PySem.W.takesIn K (.builtin "object.__class__")=some true)
      (hm:PySem.W.mroIn K C (.type "object")=some true):kO K H (.ref a) (.ref C)
theorem zq{x:V}{u t:Value}(I:Inv X ae σ H s)(rx:RelV x u)(ty:kO X.K H x t)(e:PySem.W.kitOne X.K t c=some b)(h:∀tk,Q (.bool b) {s with toks:=tk}):wpAny (model X.prog X.w) A (call (.builtin "isinstance") [u,c]) Q E s:=by
 cases ty with
 | aL=>cases (show u=Value.none from rx);exact lQ PySem.W.kitx_none I.kB True.intro e (λz=>nomatch z) h
 | bl y=>cases (show u=Value.bool y from rx);exact lQ PySem.W.kitx_bool I.kB True.intro e (λz=>nomatch z) h
 | int i=>obtain⟨t,q⟩:=(show ∃t,u=Value.int i t from rx);cases q;exact lQ PySem.W.kitx_int I.kB True.intro e (λz=>nomatch z) h
 | str y=>obtain⟨t,q⟩:=(show ∃t,u=Value.str y t from rx);cases q;exact lQ PySem.W.kitx_str I.kB True.intro e (λz=>nomatch z) h
 | HN y=>obtain⟨t,q⟩:=(show ∃t,u=Value.float y t from rx);cases q;exact lQ PySem.W.kitx_float I.kB True.intro e (λz=>nomatch z) h
 | @lst a xs ea =>
  cases (show u=Value.ref a from rx);obtain⟨_,_,n,_,h1⟩:=(show bL X.prog X.w H s.heap a (.lst xs) from I.bw a _ ea);exact lQ PySem.W.kitx_list I.kB ⟨_,h1,rfl⟩ e (λz=>nomatch z) h
 | @gW a ob xs ea =>
  cases (show u=Value.ref a from rx);obtain⟨_,_,_,n,_,h1⟩:=(show bL X.prog X.w H s.heap a (.gW ob (.lst xs)) from I.bw a _ ea);exact lQ PySem.W.kitx_list I.kB ⟨_,h1,rfl⟩ e (λz=>nomatch z) h
 | @tup a xs ea =>
  cases (show u=Value.ref a from rx);obtain⟨_,_,_,p⟩:=(show bL X.prog X.w H s.heap a (.tup xs) from I.bw a _ ea);obtain⟨o,h1,h2,_⟩:=p;exact lQ PySem.W.kitx_tuple I.kB ⟨o,h1,h2⟩ e (λz=>nomatch z) h
 | @dK a au ea =>
  cases (show u=Value.ref a from rx);obtain⟨_,_,vs,_,p⟩:=(show bL X.prog X.w H s.heap a (.dK au) from I.bw a _ ea);obtain⟨o,es,ep,h1,h2,_⟩:=p;exact lQ PySem.W.kitx_dict I.kB ⟨o,h1,h2.1⟩ e (λz=>nomatch z) h
 | @dT a au ea =>
  cases (show u=Value.ref a from rx);obtain⟨_,_,xs,_,o,es,ep,h1,h2,_⟩:=(show bL X.prog X.w H s.heap a (.dT au) from I.bw a _ ea);exact lQ PySem.W.kitx_dict I.kB ⟨o,h1,h2.1⟩ e (λz=>nomatch z) h
 | @ins a C dx fs ea cl ha hn Eh hm =>
  cases (show u=Value.ref a from rx);obtain⟨mA,O,_⟩:=Fo I.bw ea;obtain⟨od,J,_⟩:=O.look;exact lQ (PySem.W.kitx_own (cl.get _) cl.hd ha hn Eh hm) I.kB J e (λz=>nomatch z) h
end
structure eB (k:Nat) (A:Around):Prop where
 hd:A.handled=none
 dp:A.depth+3*k+5<recursionLimit
 un:A.units+16*k+200<cLine
 gd:A.guards=some []
theorem eB.mono{j k:Nat}{A:Around}(r:eB k A)(h:j<=k):eB j A:=⟨r.hd,by have:=r.dp;omega,by have:=r.un;omega,r.gd⟩
theorem eB.deeper{k:Nat}{A:Around}(r:eB (k+1) A)(env:Env):eB k (A.deeper env) :=
 ⟨r.hd,by have:=r.dp;show A.depth+1+3*k+5<_;omega,by have:=r.un;show A.units+3+16*k+200<_;omega,r.gd⟩
theorem eB.in1{k:Nat}{A:Around}(r:eB (k+1) A):eB k A.in1 :=
 ⟨r.hd,by have:=r.dp;show A.depth+3*k+5<_;omega,by have:=r.un;show A.units+1+16*k+200<_;omega,r.gd⟩
theorem vK{A:Around}{C:Addr}{us:List Value}{kw:List (Str×Value)}:(A.under (.builtin "type.__call__" ⟨.ref C::us,kw⟩)).depth=A.depth+1:=by
 first | rfl | simp[Around.under,Code.weight,Code.isCreation,Code.isGuard,Code.isCaller,Code.frames,Code.isFrame,guardIds]
theorem vL{A:Around}{C:Addr}{us:List Value}{kw:List (Str×Value)}:(A.under (.builtin "type.__call__" ⟨.ref C::us,kw⟩)).units=A.units+1:=by
 first | rfl | simp[Around.under,Code.cUnits,Code.frames,Code.isFrame]
theorem eB.make{k:Nat}{A:Around}(r:eB (k+1) A)(C:Addr)(us:List Value)(kw:List (Str×Value)):eB k (A.under (.builtin "type.__call__" ⟨.ref C::us,kw⟩)) :=
 ⟨r.hd,by have:=r.dp;rw[vK];omega,by have:=r.un;rw[vL];omega,by first | exact r.gd | (simpa[Around.under,Code.guards,Code.isGuard,guardIds,pushGuards]using r.gd)⟩
theorem eB.depth{k:Nat}{A:Around}(r:eB k A):A.depth<recursionLimit:=by have:=r.dp;omega
theorem eB.units{k:Nat}{A:Around}(r:eB k A):A.units+64<cLine:=by have:=r.un;omega
def Kc:TA:=λ_ H Q=>Q [] H
noncomputable def xE(ta:TE)(tr:TA):TA:=λσ H Q=>ta σ H λx H1=>tr σ H1 λxs H2=>Q (x::xs) H2
section
variable {X:Cx} {e:Expr} {es:List Expr} {te:TE} {t:TA} {pos:Pos}
theorem ff:PA X [] Kc:=λ_ _ _ _ H Q I h=>Calls.spliced_nil ⟨[],H,I,.nil,h⟩
theorem cF(ha:PE X e te)(hr:PA X es t)(hs:starEach (e::es) X.env=(false,eval e X.env)::starEach es X.env:=by rfl):PA X (e::es) (xE te t):=by
 intro pos ae s σ H Q I h;rw[hs];show wpAny _ _ (spliced ((false,eval e X.env)::backTo pos (starEach es X.env))) _ _ s;refine Calls.spliced_cons (bX (ha ae s σ H _ I h) ?_);rintro u s1 ⟨x,H1,I1,r1,q1⟩;exact bX (hr pos ae s1 σ H1 _ I1 q1) λus s2 ⟨xs,H2,I2,r2,q2⟩=>⟨x::xs,H2,I2,.cons r1 r2,q2⟩
def O2(t:TA):TE:=λσ H Q=>t σ H λxs H1=>xs.length<=sizeLine/\∀p,H1 p=none->Q (.ref p) (bu H1 p (.tup xs))
def Ue(t:TA):TE:=λσ H Q=>t σ H λxs H1=>xs.length<=sizeLine/\∀p,H1 p=none->Q (.ref p) (bu H1 p (.lst xs))
theorem mS {x1} (h:PA X es t):PE X (.Tuple es x1 pos) (O2 t):=by
 intro ae s σ H Q I hq;refine wpAny_Tuple_spliced (bX (h pos ae s σ H _ I hq) λus s1 ⟨xs,H1,I1,r,z,q⟩=>⟨by rw[<- r.length];exact z,?_⟩);have hf:H1 s1.heap.objs.size=none:=I1.bw.fresh (aE _);refine⟨.ref s1.heap.objs.size,bu H1 s1.heap.objs.size (.tup xs),I1.laid (t':=s1.toks) (λb u e=>cI _ e) (aE _) ?_,rfl,q _ hf⟩;exact⟨z,us,r,⟨_,gX _ rfl,rfl,_,rfl⟩⟩
theorem Kd(h:PA X es t):PE X (.List es pos) (Ue t):=by
 intro ae s σ H Q I hq;refine wpAny_List_spliced (bX (h pos ae s σ H _ I hq) λus s1 ⟨xs,H1,I1,r,z,q⟩=>⟨by rw[<- r.length];exact z,?_⟩);have hf:H1 s1.heap.objs.size=none:=I1.bw.fresh (aE _);refine⟨.ref s1.heap.objs.size,bu H1 s1.heap.objs.size (.lst xs),I1.laid (t':=s1.toks) (λb u e=>cI _ e) (aE _) ?_,rfl,q _ hf⟩;exact⟨z,us,0,r,gX _ rfl⟩
end
abbrev Sp:=List V->Hp->VK->XK->Prop
abbrev zt:=List Env->Hp->Shared->XK->Value->Shared->Prop
structure oQ (P:Program) (w:World) (K:Frag) (mg:Str->Option Value) (base:Heap) (A:Around) (outer:List Env) (s:Shared) (H:Hp):Prop where
 frames:A.frames=some outer
 mod:Mod K mg base
 bs:∀b o,base.get? b=some o->s.heap.get? b=some o/\H b=none
 An:base.objs.size<=s.heap.objs.size
 jH:s.heap.FunFrames base outer
 E5:∀b∈y9 outer,H b=none
 bw:iJ P w H s.heap
 bare:AllBare s.gens
def CE(outer:List Env)(P:Program)(w:World)(H:Hp)(s:Shared)(Q:VK)(u:Value)(s':Shared):Prop :=
 ∃v H',s'.os=s.os/\AllBare s'.gens/\Un (y9 outer) [] H H' s.heap s'.heap/\iJ P w H' s'.heap/\RelV v u/\Q v H'
def CR(CX:zt)(outer:List Env)(P:Program)(w:World)(H:Hp)(s:Shared)(Q:VK)(E:XK)(r:Result)(s':Shared):Prop :=
 match r with
 | .ok (.ret u)=>CE outer P w H s Q u s'
 | .ok _=>False
 | .error e=>CX outer H s E e s'
structure dQ (P:Program) (w:World) (K:Frag) (mg:Str->Option Value) (base:Heap) (CX:zt) (k:Nat) (f:Addr) (fd:FuncData) (ps:List Str) (sp:Sp):Prop where
 len:∀vs H Q E,sp vs H Q E->vs.length=ps.length
 run:∀(A:Around)(outer:List Env)(s:Shared)(H:Hp)(args:Args)(us:List Value)(vs:List V)(Q:VK)(E:XK),eB k A->oQ P w K mg base A outer s H->BindsTo s fd args (ps.zip us)->aQ vs us->sp vs H Q E ->
  codeAny (model P w) A (.call (.ref f) args) (CR CX outer P w H s Q E) s
theorem dQ.mono{P:Program}{w:World}{K:Frag}{mg:Str->Option Value}{base:Heap}{CX:zt}{j k:Nat}{f:Addr}{fd:FuncData}{ps:List Str}{sp:Sp}(F:dQ P w K mg base CX j f fd ps sp)(h:j<=k):dQ P w K mg base CX k f fd ps sp:=⟨F.len,λA outer s H args us vs Q E hr=>F.run A outer s H args us vs Q E (hr.mono h)⟩
theorem dQ.imp{P:Program}{w:World}{K:Frag}{mg:Str->Option Value}{base:Heap}{CX:zt}{k:Nat}{f:Addr}{fd:FuncData}{ps:List Str}{sp WD:Sp}(F:dQ P w K mg base CX k f fd ps sp)(h:∀vs H Q E,WD vs H Q E->sp vs H Q E):dQ P w K mg base CX k f fd ps WD :=
 ⟨λvs H Q E q=>F.len vs H Q E (h _ _ _ _ q),λA outer s H args us vs Q E hr he hb hv hs=>F.run A outer s H args us vs Q E hr he hb hv (h _ _ _ _ hs)⟩
theorem oQ.make{P:Program}{w:World}{K:Frag}{mg:Str->Option Value}{base:Heap}{A:Around}{outer:List Env}{s:Shared}{H:Hp}(e:oQ P w K mg base A outer s H)(C:Addr)(us:List Value)(kw:List (Str×Value)):oQ P w K mg base (A.under (.builtin "type.__call__" ⟨.ref C::us,kw⟩)) outer s H:=⟨by first | exact e.frames | (simpa[Around.under,Code.envs,Code.isFrame,pushEnvs]using e.frames),e.mod,e.bs,e.An,e.jH,e.E5,e.bw,e.bare⟩
theorem oQ.in1{P:Program}{w:World}{K:Frag}{mg:Str->Option Value}{base:Heap}{A:Around}{outer:List Env}{s:Shared}{H:Hp}(e:oQ P w K mg base A outer s H):oQ P w K mg base A.in1 outer s H:=⟨e.frames,e.mod,e.bs,e.An,e.jH,e.E5,e.bw,e.bare⟩
section
variable {X:Cx} {ae:List (Addr×Obj)} {σ:St} {H:Hp} {s s':Shared}
theorem Inv.Ke(I:Inv X ae σ H s):oQ X.prog X.w X.K X.mg X.base X.A X.stack s H :=
 ⟨I.ok.frames,I.ok.mod,I.bs,bJ I.ok.An I.sz,I.stack,I.qr,I.bw,I.bare⟩
theorem Inv.after{Q:VK}{u:Value}(I:Inv X ae σ H s)(h:CE X.stack X.prog X.w H s Q u s'):EP X ae σ Q u s':=by
 obtain⟨v,H',os,bare,un,bw,r,q⟩:=h;obtain⟨hh,g,d,t,YG⟩:=s';obtain rfl:YG=s.os:=os;exact⟨v,H',I.call (h':=hh) (g':=g) (d':=d) (t':=t) (ch:=[]) un bw bare (λb z=>absurd z (by simp)),r,q⟩
end
noncomputable def O3(sp:Sp)(HZ:List V)(E:XK)(t:TA):TE:=λσ H Q=>t σ H λvs H1=>sp (vs++HZ) H1 Q E
noncomputable def Binds(K:Frag)(fd:FuncData)(ps:List Str)(ds:List Value):Prop :=
 ∀(s:Shared)(us:List Value),K.In s.heap->(us++ds).length=ps.length->BindsTo s fd ⟨us,[]⟩ (ps.zip (us++ds))
theorem Binds.all{K:Frag}{fd:FuncData}{ps:List Str}(h:∀us:List Value,us.length=ps.length->bindArgs fd ⟨us,[]⟩=pure (ps.zip us)):Binds K fd ps []:=λs us _ hl=>by
 rw[oK]at hl⊢;exact .of_eq (h us hl)
noncomputable def qC(CX:zt)(X:Cx)(E:XK):Prop:=∀(ae:List (Addr×Obj))(σ:St)(H:Hp)(s:Shared)(e:Value)(s':Shared),Inv X ae σ H s->CX X.stack H s E e s'->X.xe e s'
section
variable {X:Cx} {CX:zt} {k:Nat} {f C:Addr} {fd:FuncData} {ps:List Str} {sp:Sp} {HZ:List V} {ds:List Value} {E:XK} {x m:Str} {p pos qD:Pos} {e o:Expr} {es:List Expr} {ta:TE} {t:TA}
theorem Kg{ae:List (Addr×Obj)}{σ:St}{H:Hp}{s:Shared}{Q:VK}{us:List Value}{vs:List V}(F:dQ X.prog X.w X.K X.mg X.base CX k f fd ps sp)(hr:eB k X.A)(hb:Binds X.K fd ps ds)(hd:aQ HZ ds)(hx:qC CX X E)(I:Inv X ae σ H s)(r:aQ vs us)(h:sp (vs++HZ) H Q E):wpAny (model X.prog X.w) X.A (call (.ref f) us) (EP X ae σ Q) X.xe s:=by
 have r2:aQ (vs++HZ) (us++ds):=r.append hd;have hl:(us++ds).length=ps.length:=by rw[<- r2.length];exact F.len _ _ _ _ h
 refine wpAny_call (Bb (F.run X.A X.stack s H ⟨us,[]⟩ (us++ds) (vs++HZ) Q E hr I.Ke (hb s us I.kB hl) r2 h) λr s' hq=>?_)
 cases r with
 | error e=>exact hx ae σ H s e s' I hq
 | ok fl =>
  cases fl with
  | ret u=>exact I.after hq
  | next=>exact False.elim hq
  | brk=>exact False.elim hq
  | cont=>exact False.elim hq
theorem Fq(F:dQ X.prog X.w X.K X.mg X.base CX k f fd ps sp)(hr:eB k X.A)(hg:Gl X x)(hm:X.mg x=some (.ref f))(hk:PySem.W.keepIn X.K (.ref f)=true)(hb:Binds X.K fd ps ds)(hd:aQ HZ ds)(hx:qC CX X E)(ha:PA X (e::es) t) (BD:(x==("__debug__" : Str))=false:=by decide) (he:starEach (e::es) X.env=(false,eval e X.env)::starEach es X.env:=by rfl) (jM:(backTo pos (starEach es X.env)).any (·.1)=false:=by rfl):PE X (.Call (.Name x p) (e::es) [] pos) (O3 sp HZ E t):=by
 intro ae s σ H Q I h;refine EN (jJ I hg hm ?_ BD);refine PySem.W.callWith_K (h₀:=X.base) I.ok.mod.Ny hk (bX (ha pos ae s σ H _ I h) λus s1 ⟨vs,H1,I1,r,q⟩=>⟨I1.kB,?_⟩) he jM;exact Kg F hr hb hd hx I1 r q
end
structure gA (N P:List Str) (sc:Scope):Prop where
 kind:sc.kind=.function
 co:sc.isCoroutine=false
 gen:sc.isGenerator=false
 nd:N.Nodup
 pre:N.take P.length=P
 par:∀x∈P,sc.names.lookup x=some .local\/sc.names.lookup x=some .cell
 BE:∀y∈sc.names,y.2≠.free
theorem pk{kindOf:Str->Option NameKind}{x:Str}:∀{sZ:List (Str×Value)}{m:Str->Option Value},(∀v,(x,v)∉sZ)->bindL kindOf sZ m x=m x
 | [],_,_=>rfl
 | (n,v)::r,m,h=>by
  unfold bindL;rw[pk λw hw=>h w (dP _ hw)];split
  ·have:x≠n:=by rintro rfl;exact h v ez
   simp[this]
  ·rfl
theorem pv{kindOf:Str->Option NameKind}{x:Str}:∀{sZ:List (Str×Value)}{m:Str->Option Value},(∀v,(x,v)∉sZ)->bindC kindOf sZ m x=m x
 | [],_,_=>rfl
 | (n,v)::r,m,h=>by
  unfold bindC;rw[pv λw hw=>h w (dP _ hw)];split
  ·rfl
  ·have:x≠n:=by rintro rfl;exact h v ez
   simp[this]
theorem pw{kindOf:Str->Option NameKind}{x:Str}{v:Value}:∀{P:List Str}{vs:List Value}{i:Nat}{m:Str->Option Value},P.Nodup->P[i]?=some x->vs[i]?=some v->kindOf x=some .local->bindL kindOf (P.zip vs) m x=some v
 | [],_,_,_,_,h,_,_=>by simp at h
 | _::_,[],_,_,_,_,h,_=>by simp at h
 | p::P,w::vs,0,m,nd,h1,h2,hk=>by
  simp at h1 h2;subst h1;subst h2;show bindL kindOf ((p,w)::P.zip vs) m p=_;unfold bindL;rw[pk λv hv=>(AV.mp nd).1 (List.of_mem_zip hv).1,aF hk];simp
 | p::P,w::vs,i+1,m,nd,h1,h2,hk=>by
  show bindL kindOf ((p,w)::P.zip vs) m x=_;unfold bindL;exact pw (i:=i) (AV.mp nd).2 (by simpa using h1) (by simpa using h2) hk
theorem px{kindOf:Str->Option NameKind}{x:Str}{v:Value}:∀{P:List Str}{vs:List Value}{i:Nat}{m:Str->Option Value},P.Nodup->P[i]?=some x->vs[i]?=some v->kindOf x≠some .local->bindC kindOf (P.zip vs) m x=some v
 | [],_,_,_,_,h,_,_=>by simp at h
 | _::_,[],_,_,_,_,h,_=>by simp at h
 | p::P,w::vs,0,m,nd,h1,h2,hk=>by
  simp at h1 h2;subst h1;subst h2;show bindC kindOf ((p,w)::P.zip vs) m p=_;unfold bindC;rw[pv λv hv=>(AV.mp nd).1 (List.of_mem_zip hv).1,aP hk];simp
 | p::P,w::vs,i+1,m,nd,h1,h2,hk=>by
  show bindC kindOf ((p,w)::P.zip vs) m x=_;unfold bindC;exact px (i:=i) (AV.mp nd).2 (by simpa using h1) (by simpa using h2) hk
noncomputable def start(N:List Str)(vs:List V):St:=vs.map some++List.replicate (N.length-vs.length) none
noncomputable def qE(CX:zt)(P:Program)(w:World)(K:Frag)(mg:Str->Option Value)(base:Heap)(N:List Str)(qual:Str)(scope:Scope)(f:Addr)(cd:Value)(A:Around)(outer:List Env)(s:Shared)(H:Hp)(E:XK):Cx where
 prog:=P
 w:=w
 K:=K
 mg:=mg
 base:=base
 A:=A.deeper (envOfC qual scope s.heap.objs.size f cd)
 N:=N
 dU:=s
 mM:=H
 env:=envOfC qual scope s.heap.objs.size f cd
 outer:=outer
 stack:=envOfC qual scope s.heap.objs.size f cd::outer
 ex:=[]
 calm:=true
 fn:=λ_=>true
 pn:=[]
 xe:=λe s'=>wpAny (model P w) (A.deeper (envOfC qual scope s.heap.objs.size f cd)) (leaving (envOfC qual scope s.heap.objs.size f cd) e) (λ_ O4=>CX outer H s E e O4) (λe' O4=>CX outer H s E e' O4) s'
theorem s_{sc:Scope}{n:Nat}{x:Str}(h:sc.names.lookup x=some .cell):∃c,(cellsFrom n sc.names []).lookup x=some c:=by
 have q:=PySem.W.cellsFrom_some sc.names n [] (.inl h);exact vj.mp q
theorem zu{CX:zt}{P:Program}{w:World}{K:Frag}{mg:Str->Option Value}{base:Heap}{N ps:List Str}{qual:Str}{scope:Scope}{f:Addr}{cd:Value}{A:Around}{outer:List Env}{s s1:Shared}{H:Hp}{E:XK}{us:List Value}{vs:List V}(S:gA N ps scope)(hd:A.handled=none)(e0:oQ P w K mg base A outer s H)(hl:vs.length=ps.length)(r:aQ vs us)(x:InCallC s s.heap.objs.size (bindL (envOfC qual scope s.heap.objs.size f cd).kindOf (ps.zip us) λ_=>none) (cellsFrom (s.heap.objs.size+1) scope.names []) (bindC (envOfC qual scope s.heap.objs.size f cd).kindOf (ps.zip us) λ_=>none) s1):Inv (qE CX P w K mg base N qual scope f cd A outer s H E) [] (start N vs) H s1:=by
 have jM:ps.length<=N.length:=by have:=oN List.length S.pre;rw[dg]at this;omega
 obtain⟨h1,tk,rfl,hk⟩:=x.done;have O5:∀b:Addr,b∉(qE CX P w K mg base N qual scope f cd A outer s H E).ex:=λb z=>absurd (show b∈([]:List Addr) from z) (by simp)
 refine⟨⟨e0.mod,S.kind,rfl,rfl,aE _,λy z c h1 h2=>?_,λy hy=>?_,λy c _ h=>?_,λ_=>hd,Around.frames_deeper e0.frames,.inr ⟨rfl,rfl⟩,λb z=>absurd z (O5 b),e0.bs,e0.An,λb _ _=>O5 b,λb z=>absurd z (O5 b),e0.jH,e0.E5⟩,
  rfl,e0.bare,Un.kept hk,⟨_,x.toInCall.ns,λi y v h1 h2 h3=>?_⟩,λy c h=>⟨_,x.cell y c h⟩,e0.bw.fresh (aE _),λy c h=>?_,λp hp=>absurd (show p∈([]:List (Addr×Obj)) from hp) (by simp),e0.bw.kept hk,?_⟩
 ·exact name_of_addr x.apart (mI h1) (mI h2)
 ·have hy:scope.names.lookup y=some .cell\/scope.names.lookup y=some .free:=hy;rcases hy with hy | hy
  ·exact s_ hy
  ·exact absurd rfl (S.BE _ (mI hy))
 ·exact kJ (x.above y c (mI h))
 ·have hi:i<vs.length:=by
   unfold start at h2;by_cases hi:i<vs.length
   ·exact hi
   ·rw[sH (by simpa using hi)]at h2;rw[List.getElem?_replicate]at h2;split at h2<;>cases h2
  have ha:vs[i]?=some v:=by
   unfold start at h2;rw[kG (by simpa using hi),c_]at h2
   cases e:vs[i]? with
   | none=>rw[e]at h2;cases h2
   | some a=>rw[e]at h2;cases h2;rfl
  obtain⟨u,hu,rv⟩:=r.get ha
  have hp:ps[i]?=some y:=by
   rw[<- S.pre,List.getElem?_take_of_lt ∅];exact h1
  have WE:ps.Nodup:=by rw[<- S.pre];exact S.nd.sublist (List.take_sublist _ _)
  refine⟨u,rv,?_⟩;rcases S.par y (fw hp)with k | k
  ·exact .inl ⟨k,pw WE hp hu k⟩
  ·obtain⟨c,e⟩:=s_ (n:=s.heap.objs.size+1) k;refine .inr ⟨.inl k,c,e,?_⟩;have q:=x.cell y c e;rw[px WE hp hu (by show scope.names.lookup y≠_;rw[k];decide)]at q;exact q
 ·exact e0.bw.fresh (kJ (x.above y c (mI h)))
 ·unfold start;show _=N.length;rw[dz,aB,Jn];omega
theorem BF {CX : zt} {P : Program} {w : World} {K : Frag} {mg : Str -> Option Value} {base : Heap} {k : Nat} {f : Addr} {name qual : Str} {params : Arguments} {body : List Stmt} {scope : Scope} {dV kV doc pm lU ct oc : Value} {an od : Option Addr}
    {Ei:Array (Option Value)} {N ps:List Str} {sp:Sp} (lk:K.lookup f=some ⟨oc,od,.func (PySem.W.fnOf name qual params body scope dV kV doc pm an lU ct),Ei⟩) (Ap:PySem.W.codeIn K lU qual=true) (S:gA N ps scope)
    (len:∀vs H Q E,sp vs H Q E->vs.length=ps.length)
    (BG:∀(A:Around)(outer:List Env)(s:Shared)(H:Hp)(vs:List V)(Q:VK)(E:XK),eB k (A.deeper (envOfC qual scope s.heap.objs.size f lU))->sp vs H Q E ->
      ∃t,pe (qE CX P w K mg base N qual scope f lU A outer s H E) body t/\t {nx:=λ_ H'=>Q .aL H',rt:=Q} (start N vs) H) :
    dQ P w K mg base CX (k+1) f (PySem.W.fnOf name qual params body scope dV kV doc pm an lU ct) ps sp:=by
  refine⟨len,λA outer s H args us vs Q E hr e0 hb r uZ=>?_⟩;have hl:=len _ _ _ _ uZ;have KX:K.In s.heap:=e0.mod.Ny.keeps λb o e=>(e0.bs b o e).1;have lim:s.heap.NoLimit:=e0.mod.nolimit.keeps λb o e=>(e0.bs b o e).1
  have BH:∀y∈ps.zip us,scope.names.lookup y.1=some .local\/(scope.names.lookup y.1=some .cell/\((cellsFrom (s.heap.objs.size+1) scope.names []).lookup y.1).isSome=true):=λ⟨n,v⟩ hy=>by
    rcases S.par n (List.of_mem_zip hy).1 with q | q
    · exact .inl q
    · exact .inr ⟨q,PySem.W.cellsFrom_some _ _ _ (.inl q)⟩
  refine codeAny_call_function hr.depth (KX _ _ lk) rfl S.co S.gen rfl (PySem.W.codeRec_of KX Ap) (hb _ _ _ _ ?_);refine wpAny_newFunctionEnv_cells S.kind BH λenv he s1 x=>?_;subst he;refine⟨lim.keeps x.toInCall.keep,codeAny_func ?_⟩;obtain⟨t,ht,hq⟩:=BG A outer s H vs Q E (hr.deeper _) uZ;have I:Inv (qE CX P w K mg base N qual scope f lU A outer s H E) [] (start N vs) H s1:=zu S hr.hd e0 hl r x;refine jb (ht [] s1 (start N vs) H _ I hq) (λfl s' hs=>?_) λe s' hs=>hs
  have fin:∀{cY:St}{H':Hp}{v:V}{u:Value},Inv (qE CX P w K mg base N qual scope f lU A outer s H E) [] cY H' s'->RelV v u->Q v H'->CE outer P w H s Q u s' :=
    λ{cY H' v u} J rv q=>⟨v,H',J.os,J.bare,J.base,J.bw,rv,q⟩
  cases fl with
  | ret u =>
    obtain⟨v,cY,H',J,rv,q⟩:=hs;exact fin J rv q
  | next =>
    obtain⟨cY,H',J,q⟩:=hs;exact fin (v:=V.aL) (u:=Value.none) J rfl q
  | brk =>
    obtain⟨_,_,_,q⟩:=hs;exact False.elim q
  | cont =>
    obtain⟨_,_,_,q⟩:=hs;exact False.elim q
section
variable {X:Cx} {x:Str} {p pos:Pos} {e:Expr} {es:List Expr} {t:TA} {id T:String} {r:List V->Hp->VK->Prop}
noncomputable def R5(r:List V->Hp->VK->Prop)(t:TA):TE:=λσ H Q=>t σ H λvs H1=>r vs H1 Q
theorem fZ(hc:dW X (.builtin id) r)(hg:Gl X x)(hm:X.mg x=none)(hv:bootBuiltins x=some (.builtin id))(ha:PA X (e::es) t) (hn:x≠ "__name__" := by decide) (BD:(x==("__debug__" : Str))=false:=by decide) (he:starEach (e::es) X.env=(false,eval e X.env)::starEach es X.env:=by rfl) (jM:(backTo pos (starEach es X.env)).any (·.1)=false:=by rfl):PE X (.Call (.Name x p) (e::es) [] pos) (R5 r t):=by
 intro ae s σ H Q I h;refine EN (mP I hg hm hv ?_ hn BD);exact PyProof.Rows.callWith_builtin1 (bX (ha pos ae s σ H _ I h) λus s1 ⟨vs,H1,I1,r1,q1⟩=>hc ae s1 σ H1 vs us Q I1 r1 q1) he jM
theorem iy(hc:dW X (.type T) r)(hg:Gl X x)(hm:X.mg x=none)(hv:bootBuiltins x=some (.type T))(ha:PA X (e::es) t) (hn:x≠ "__name__" := by decide) (BD:(x==("__debug__" : Str))=false:=by decide) (he:starEach (e::es) X.env=(false,eval e X.env)::starEach es X.env:=by rfl) (jM:(backTo pos (starEach es X.env)).any (·.1)=false:=by rfl):PE X (.Call (.Name x p) (e::es) [] pos) (R5 r t):=by
 intro ae s σ H Q I h;refine EN (mP I hg hm hv ?_ hn BD);exact Jg (bX (ha pos ae s σ H _ I h) λus s1 ⟨vs,H1,I1,r1,q1⟩=>hc ae s1 σ H1 vs us Q I1 r1 q1) he jM
end
section
variable {κ:Type} [DecidableEq κ]
noncomputable def kP(au:List (κ×V))(k:κ):Option V:=(au.find? λkv=>decide (kv.1=k)).map (·.2)
noncomputable def eL(au:List (κ×V))(k:κ)(v:V):List (κ×V) :=
 if (au.any λkv=>decide (kv.1=k))=true then au.map (λkv=>if kv.1=k then (kv.1,v) else kv) else au++[(k,v)]
noncomputable def H_(au:List (κ×V))(k:κ):List (κ×V):=au.filter λkv=>decide (kv.1≠k)
theorem jN{p:κ×V}{r:List (κ×V)}{k:κ}(e:p.1=k):kP (p::r) k=some p.2:=by simp[kP,i_,e]
theorem hZ{p:κ×V}{r:List (κ×V)}{k:κ}(e:¬p.1=k):kP (p::r) k=kP r k:=by simp[kP,i_,e]
theorem tf(k:κ):∀au:List (κ×V),(au.any λkv=>decide (kv.1=k))=(kP au k).isSome
 | []=>rfl
 | p::r=>by
  rw[AZ];by_cases e:p.1=k
  ·simp only[jN e,fX e,Bool.true_or,Option.isSome_some]
  ·rw[hZ e,eU e,Bool.false_or];exact tf k r
theorem h_(au:List (κ×V))(k:κ)(v:V):(eL au k v).length<=au.length+1:=by
 unfold eL;split
 ·rw[aB];omega
 ·rw[dz,fJ,kI];omega
theorem g9.f_{o:Option V}{u:Option Value}(r:g9 o u):o.isSome=u.isSome:=by
 cases o with
 | none=>cases u with
  | none=>rfl
  | some _=>exact(show False from r).elim
 | some _=>cases u with
  | none=>exact(show False from r).elim
  | some _=>rfl
theorem g9.getD{o:Option V}{u:Option Value}{d:V}{d':Value}(r:g9 o u)(rd:RelV d d'):RelV (o.getD d) (u.getD d'):=by
 cases o with
 | none=>cases u with
  | none=>exact rd
  | some _=>exact(show False from r).elim
 | some _=>cases u with
  | none=>exact(show False from r).elim
  | some _=>exact r
theorem KV.val{au:List (κ×V)}{vs:List (κ×Value)}(r:KV au vs)(k:κ):g9 (kP au k) (valueAt vs k):=by
 unfold KV at r
 induction r with
 | nil=>exact True.intro
 | @cons p q ps qs h t ih =>
  obtain⟨h1,h2⟩:=h;by_cases e:p.1=k
  ·have e':q.1=k:=h1.symm.trans e;have b:valueAt (q::qs) k=some q.2:=by simp[valueAt,i_,e']
   rw[jN e,b];exact h2
  ·have e':¬q.1=k:=λz=>e (h1.trans z);have b:valueAt (q::qs) k=valueAt qs k:=by simp[valueAt,i_,e']
   rw[hZ e,b];exact ih
theorem KV.any{au:List (κ×V)}{vs:List (κ×Value)}(r:KV au vs)(k:κ):(au.any λkv=>decide (kv.1=k))=vs.any λkv=>decide (kv.1=k):=by
 unfold KV at r
 induction r with
 | nil=>rfl
 | cons h t ih=>rw[AZ,AZ,ih,h.1]
theorem KV.Kh{au:List (κ×V)}{vs:List (κ×Value)}(r:KV au vs)(k:κ){y:V}{u:Value}(ry:RelV y u):KV (au.map λkv=>if kv.1=k then (kv.1,y) else kv) (vs.map λkv=>if kv.1=k then (kv.1,u) else kv):=by
 unfold KV at r⊢
 induction r with
 | nil=>exact .nil
 | @cons p q ps qs h t ih =>
  rw[eJ,eJ];refine .cons ?_ ih;obtain⟨h1,h2⟩:=h;by_cases e:p.1=k
  ·rw[aF e,aF (h1.symm.trans e)];exact⟨h1,ry⟩
  ·rw[aP e,aP (λz=>e (h1.trans z))];exact⟨h1,h2⟩
theorem KV.put{au:List (κ×V)}{vs:List (κ×Value)}(r:KV au vs)(k:κ){y:V}{u:Value}(ry:RelV y u):KV (eL au k y) (stored vs k u):=by
 unfold eL stored;rw[r.any k];by_cases e:(vs.any λkv=>decide (kv.1=k))=true
 ·rw[aF e,aF e];exact r.Kh k ry
 ·rw[aP e,aP e];exact Paired.snoc r ⟨rfl,ry⟩
theorem KV.drop{au:List (κ×V)}{vs:List (κ×Value)}(r:KV au vs)(k:κ):KV (H_ au k) (without vs k):=by
 unfold KV at r⊢;unfold H_ without
 induction r with
 | nil=>exact .nil
 | @cons p q ps qs h t ih =>
  obtain⟨h1,h2⟩:=h;rw[AQ,AQ];by_cases e:p.1=k
  ·have a:¬decide (p.1≠k)=true:=by simp[e]
   have b:¬decide (q.1≠k)=true:=by simp[h1.symm.trans e]
   rw[aP a,aP b];exact ih
  ·have e':¬q.1=k:=λz=>e (h1.trans z);have a:decide (p.1≠k)=true:=by simp[e]
   have b:decide (q.1≠k)=true:=by simp[e']
   rw[aF a,aF b];exact .cons ⟨h1,h2⟩ ih
theorem KV.length{au:List (κ×V)}{vs:List (κ×Value)}(r:KV au vs):au.length=vs.length:=AY r
end
theorem pz{P:Program}{w:World}{k:bD}{u:Value}(r:RelV (kV k) u):(bA P w).is k u=true:=by
 cases k with
 | inl i=>obtain⟨t,e⟩:=(show ∃t,u=Value.int i t from r);subst e;exact sU P w i t
 | inr x=>obtain⟨t,e⟩:=(show ∃t,u=Value.str x t from r);subst e;exact sV P w x t
theorem pA{P:Program}{w:World}:∀{ks:List bD}{us:List Value},aQ (ks.map kV) us->ItemsAre (bA P w) ks us
 | [],_,r=>by rw[lR]at r;cases r;exact .nil
 | k::ks,_,r=>by
  rw[eJ]at r
  cases r with
  | cons h t=>exact .cons (pz h) (pA t)
abbrev KT(H:Hp):List (List bD×V)->List (List bD×Addr×Value)->Prop:=Paired λp q=>p.1=q.1/\H q.2.1=some (.tup (p.1.map kV))/\RelV p.2 q.2.2
theorem KT.val{H:Hp}{au:List (List bD×V)}{xs:List (List bD×Addr×Value)}(r:KT H au xs)(k:List bD):g9 (kP au k) ((atKey xs k).map (·.2)):=by
 induction r with
 | nil=>exact True.intro
 | @cons p q ps qs h t ih =>
  obtain⟨h1,_,h2⟩:=h;by_cases e:p.1=k
  ·have e':q.1=k:=h1.symm.trans e;have b:atKey (q::qs) k=some q.2:=by simp[atKey,i_,e']
   rw[jN e,b];exact h2
  ·have e':¬q.1=k:=λz=>e (h1.trans z);have b:atKey (q::qs) k=atKey qs k:=by simp[atKey,i_,e']
   rw[hZ e,b];exact ih
theorem KT.Kh{H:Hp}{au:List (List bD×V)}{xs:List (List bD×Addr×Value)}(r:KT H au xs)(k:List bD){y:V}{u:Value}(ry:RelV y u):KT H (au.map λkv=>if kv.1=k then (kv.1,y) else kv) (xs.map (putAt k u)):=by
 induction r with
 | nil=>exact .nil
 | @cons p q ps qs h t ih =>
  rw[eJ,eJ];refine .cons ?_ ih;obtain⟨h1,h2,h3⟩:=h;unfold putAt;by_cases e:p.1=k
  ·rw[aF e,aF (h1.symm.trans e)];exact⟨h1,h2,ry⟩
  ·rw[aP e,aP (λz=>e (h1.trans z))];exact⟨h1,h2,h3⟩
theorem KT.put{H:Hp}{au:List (List bD×V)}{xs:List (List bD×Addr×Value)}(r:KT H au xs)(k:List bD){b:Addr}{y:V}{u:Value}(hb:H b=some (.tup (k.map kV)))(ry:RelV y u):KT H (eL au k y) (storedH xs k b u):=by
 have e:(au.any λkv=>decide (kv.1=k))=(atKey xs k).isSome:=by
  rw[tf,(r.val k).f_,Jv]
 unfold eL storedH;rw[e];by_cases q:(atKey xs k).isSome=true
 ·rw[aF q,aF q];exact r.Kh k ry
 ·rw[aP q,aP q];exact Paired.snoc r ⟨rfl,hb,ry⟩
theorem KT.keeps{H H':Hp}{au:List (List bD×V)}{xs:List (List bD×Addr×Value)}(r:KT H au xs)(ht:∀b ys,H b=some (.tup ys)->H' b=some (.tup ys)):KT H' au xs :=
 Paired.JJ r λ_ _ z=>⟨z.1,ht _ _ z.2.1,z.2.2⟩
section
variable {P:Program} {w:World} {H:Hp} {h:Heap} {a:Addr}
theorem Ia{u:HO}(ok:iJ P w H h)(e:Rd H a u):bL P w H h a u:=e.ok ok
theorem tj{au:List (bD×V)}(ok:iJ P w H h)(e:Rd H a (.dK au)):au.length<=sizeLine/\(a==sysModules)=false/\∃vs,KV au vs/\h.DictOf (bA P w) a vs :=
 show bL P w H h a (.dK au) from Ia ok e
theorem tm{au:List (bD×V)}(ok:iJ P w H h)(e:H a=some (.dK au)):au.length<=sizeLine/\(a==sysModules)=false/\∃vs,KV au vs/\h.DictOf (bA P w) a vs:=tj ok (.inl e)
theorem mT{ks:List bD}(ok:iJ P w H h)(e:H a=some (.tup (ks.map kV))):(tupleKind (bA P w)).is h ks a:=by
 obtain⟨_,aA,r,o,h1,h2,n,h3⟩:=(show bL P w H h a (.tup (ks.map kV)) from ok a _ e);exact⟨o,aA.toArray,n,h1,h2,h3,by simpa using pA r⟩
theorem tq{au:List (List bD×V)}(ok:iJ P w H h)(e:Rd H a (.dT au)):au.length<=sizeLine/\(a==sysModules)=false/\∃xs,KT H au xs/\h.DictOfH (tupleKind (bA P w)) a xs:=by
 obtain⟨z,y,xs,r,o,es,ep,h1,h2,h3,h4,h5⟩:=(show bL P w H h a (.dT au) from Ia ok e);refine⟨z,y,xs,r,o,es,ep,h1,h2,h3,h4,λx hx=>?_,h5⟩
 have all:∀{l:List (List bD×V)}{m:List (List bD×Addr×Value)},KT H l m->∀x∈m,(tupleKind (bA P w)).is h x.1 x.2.1:=by
  intro l m q
  induction q with
  | nil=>intro x hx;exact nomatch hx
  | @cons p q ps qs hq t ih =>
   intro x hx;rcases bT.mp hx with e | hx
   ·subst e;exact mT ok (by rw[<- hq.1];exact hq.2.1)
   ·exact ih x hx
 exact all r x hx
theorem O6{au:List (List bD×V)}(ok:iJ P w H h)(e:H a=some (.dT au)):au.length<=sizeLine/\(a==sysModules)=false/\∃xs,KT H au xs/\h.DictOfH (tupleKind (bA P w)) a xs:=tq ok (.inl e)
end
def lV(H:Hp)(a:Addr)(y:V)(r:Option V):Prop :=
 (∃au k,Rd H a (.dK au)/\y=kV k/\r=kP au k)\/∃au k b,Rd H a (.dT au)/\y=.ref b/\H b=some (.tup (k.map kV))/\r=kP au k
def Ft(H:Hp)(a:Addr)(y v:V)(H':Hp):Prop :=
 (∃au k,H a=some (.dK au)/\y=kV k/\au.length<sizeLine/\H'=bu H a (.dK (eL au k v))) \/
 ∃au k b,H a=some (.dT au)/\y=.ref b/\H b=some (.tup (k.map kV))/\au.length<sizeLine/\H'=bu H a (.dT (eL au k v))
theorem lV.k{H:Hp}{a:Addr}{au:List (bD×V)}{k:bD}(e:H a=some (.dK au)):lV H a (kV k) (kP au k):=.inl ⟨au,k,.inl e,rfl,rfl⟩
theorem Ft.k{H:Hp}{a:Addr}{au:List (bD×V)}{k:bD}{v:V}(e:H a=some (.dK au))(hl:au.length<sizeLine):Ft H a (kV k) v (bu H a (.dK (eL au k v))):=.inl ⟨au,k,e,rfl,hl,rfl⟩
section
variable {X:Cx} {ae:List (Addr×Obj)} {σ:St} {H:Hp} {s:Shared} {a:Addr} {y v:V} {u r:Value} {o:Option V} {A:Around} {E:Value->Shared->Prop}
theorem Inv.big(I:Inv X ae σ H s):sysModules<s.heap.objs.size:=by
 have h:mainGlobals<s.heap.objs.size:=(I.mod.glob.keeps I.bk).lt;exact Bc (by decide) h
theorem pB{Q:Value->Shared->Prop}(hu:A.units+1<cLine)(I:Inv X ae σ H s)(g:lV H a y (some v))(ry:RelV y u)(h:∀w' s',Inv X ae σ H s'->RelV v w'->Q w' s'):wpAny (model X.prog X.w) A (getItem (.ref a) u) Q E s:=by
 rcases g with⟨au,k,e,ey,l⟩|⟨au,k,b,e,ey,eb,l⟩
 ·subst ey;obtain⟨z,hd,vs,mU,dd⟩:=tj I.bw e;obtain⟨w',hw,zv⟩:=g9.some_of (v:=v) (o:=valueAt vs k) (by rw[l];exact mU.val k);exact wpAny_getItem_of (pz ry) dd.mapOf hw (h w' _ (I.tok _) zv)
 ·subst ey;cases (show u=Value.ref b from ry);obtain⟨z,hd,xs,mU,dd⟩:=tq I.bw e;obtain⟨w',hw,zv⟩:=g9.some_of (v:=v) (o:=(atKey xs k).map (·.2)) (by rw[l];exact mU.val k);obtain⟨p,hp,YH⟩:=Option.map_eq_some_iff.mp hw;refine wpAny_getItem_heap (EO hu) (mT I.bw eb) dd hp ?_;rw[YH];exact h w' _ (I.tok _) zv
theorem Ug{Q:Value->Shared->Prop}(hu:A.units+1<cLine)(I:Inv X ae σ H s)(g:lV H a y o)(ry:RelV y u)(h:∀s',Inv X ae σ H s'->Q (.bool o.isSome) s'):wpAny (model X.prog X.w) A (compareOp .In u (.ref a)) Q E s:=by
 rcases g with⟨au,k,e,ey,l⟩|⟨au,k,b,e,ey,eb,l⟩
 ·subst ey;obtain⟨z,hd,vs,mU,dd⟩:=tj I.bw e;refine wpAny_in_of (pz ry) hd dd.mapOf ?_;rw[<- (mU.val k).f_,<- l];exact h _ (I.tok _)
 ·subst ey;cases (show u=Value.ref b from ry);obtain⟨z,hd,xs,mU,dd⟩:=tq I.bw e;refine wpAny_in_heap (EO hu) (mT I.bw eb) hd dd ?_;have q:=(mU.val k).f_;rw[Jv]at q;rw[<- q,<- l];exact h _ (I.tok _)
theorem Fv{Q:Value->Shared->Prop}(hu:A.units+1<cLine)(I:Inv X ae σ H s)(g:lV H a y o)(ry:RelV y u)(h:∀s',Inv X ae σ H s'->Q (.bool (!o.isSome)) s'):wpAny (model X.prog X.w) A (compareOp .NotIn u (.ref a)) Q E s:=by
 rcases g with⟨au,k,e,ey,l⟩|⟨au,k,b,e,ey,eb,l⟩
 ·subst ey;obtain⟨z,hd,vs,mU,dd⟩:=tj I.bw e;refine wpAny_notIn_of (pz ry) hd dd.mapOf ?_;rw[<- (mU.val k).f_,<- l];exact h _ (I.tok _)
 ·subst ey;cases (show u=Value.ref b from ry);obtain⟨z,hd,xs,mU,dd⟩:=tq I.bw e;refine wpAny_notIn_heap (EO hu) (mT I.bw eb) hd dd ?_;have q:=(mU.val k).f_;rw[Jv]at q;rw[<- q,<- l];exact h _ (I.tok _)
theorem qF{h':Heap}{t':Nat}{ob:HO}(I:Inv X ae σ H s)(mu:OB (H a))(hs:Heap.SameBut a s.heap h')(he:∃q,h'.get? a=some q)(new:bL X.prog X.w (bu H a ob) h' a ob):Inv X ae σ (bu H a ob) {s with heap:=h',toks:=t'} :=
 I.write (x:=a) (e:=a) mu (.inl rfl) (λb q hb z=>(hs.2 b hb).trans z) he new
theorem BI{P:Program}{w:World}{H':Hp}{h':Heap}{au:List (bD×V)}{vs:List (bD×Value)}(z:au.length<=sizeLine)(hd:(a==sysModules)=false)(mU:KV au vs)(dd:h'.DictOf (bA P w) a vs):bL P w H' h' a (.dK au):=⟨z,hd,vs,mU,dd⟩
theorem zw{H':Hp}{Q:Unit->Shared->Prop}(hu:A.units+1<cLine)(I:Inv X ae σ H s)(g:Ft H a y v H')(ry:RelV y u)(rv:RelV v r)(h:∀s',Inv X ae σ H' s'->Q () s'):wpAny (model X.prog X.w) A (setItem (.ref a) u r) Q E s:=by
 rcases g with⟨au,k,e,ey,l,eH⟩|⟨au,k,b,e,ey,eb,l,eH⟩
 ·subst ey eH;obtain⟨z,hd,vs,mU,dd⟩:=tm I.bw e;have hz:vs.length<=sizeLine:=by rw[<- mU.length];exact z
  have hl:(eL au k v).length<=sizeLine:=by have:=h_ au k v;omega
  refine wpAny_setItem_pairs (hsz:=hz) (pz ry) dd λh' Ki hs=>h _ ?_;have he:∃q,h'.get? a=some q:=let ⟨q,_,_,hq,_⟩:=Ki;⟨q,hq⟩
  exact qF I (by rw[e];exact True.intro) hs he (BI hl hd (mU.put k rv) Ki)
 ·subst ey eH;cases (show u=Value.ref b from ry);obtain⟨z,hd,xs,mU,dd⟩:=O6 I.bw e;have hz:xs.length<=sizeLine:=by rw[<- AY mU];exact z
  have hl:(eL au k v).length<=sizeLine:=by have:=h_ au k v;omega
  refine wpAny_setItem_heap (hsz:=hz) (EO hu) (mT I.bw eb) dd λh' Ki hs=>h _ ?_;obtain⟨q,es,ep,hq,h2,h3,h4,_,h5⟩:=Ki;refine qF I (by rw[e];exact True.intro) hs ⟨q,hq⟩ ⟨hl,hd,_,(mU.put k eb rv).keeps λc ys ec=>?_,q,es,ep,hq,h2,h3,h4,h5⟩;rw[aq (Oy ec e (λz=>nomatch z))];exact ec
end
theorem lC{X:Cx}{ae:List (Addr×Obj)}{σ:St}{H:Hp}{s:Shared}{a:Addr}{y:V}{o:Option V}(I:Inv X ae σ H s)(g:lV H a y o):s.TypeIs (.ref a) "dict" := by
 rcases g with⟨au,k,e,_,_⟩|⟨au,k,b,e,_,_,_⟩
 ·obtain⟨_,_,vs,_,dd⟩:=tj I.bw e;exact dd.typeIs
 ·obtain⟨_,_,xs,_,dd⟩:=tq I.bw e;exact dd.typeIs
theorem tu{P:Program}{w:World}{H:Hp}(h:Heap)(hb:sysModules<h.objs.size):bL P w H (h.push {cls:=.type "dict",data:=.dict #[]}) h.objs.size (.dK []) :=
 ⟨mL _,oJ.mpr (cN (eK hb)),[],.nil,Heap.DictOf.new h⟩
def Kj:TE:=λ_ H Q=>∀p,H p=none->Q (.ref p) (bu H p (.dK []))
section
variable {X:Cx} {pos:Pos}
theorem BJ:PE X (.Dict [] [] pos) Kj:=λae s σ H Q I h =>
 wpAny_Dict_empty ⟨.ref s.heap.objs.size,_,I.laid (a:=s.heap.objs.size) (o:=.dK []) (t':=s.toks) (λ_ _ q=>cI _ q) (aE _) (tu s.heap I.big),rfl,h _ (I.bw.fresh (aE _))⟩
end
noncomputable def gB:List (TE×TE)->St->Hp->(List (V×V)->Hp->Prop)->Prop
 | [],_,H,Q=>Q [] H
 | (tk,tv)::r,σ,H,Q=>tk σ H λx H1=>tv σ H1 λy H2=>gB r σ H2 λps H3=>Q ((x,y)::ps) H3
abbrev VV:List (V×V)->List (Value×Value)->Prop:=Paired λp q=>RelV p.1 q.1/\RelV p.2 q.2
def ND(X:Cx)(pos:Pos)(keys:List (Option Expr))(mV:List Expr)(mW:List (TE×TE)):Prop :=
 ∀(ae:List (Addr×Obj))(s:Shared)(σ:St)(H:Hp)(Q:List (V×V)->Hp->Prop),Inv X ae σ H s->gB mW σ H Q ->
  wpAny (model X.prog X.w) X.A (evalPairs (pairTrees keys mV X.env pos)) (λvs s'=>∃ps H',Inv X ae σ H' s'/\VV ps vs/\Q ps H') X.xe s
theorem Fw{X:Cx}{pos:Pos}:ND X pos [] [] []:=λae s σ H Q I h=>pairTrees_nil_walk ⟨[],H,I,.nil,h⟩
theorem BK{X:Cx}{pos:Pos}{k v:Expr}{ks:List (Option Expr)}{vs:List Expr}{tk tv:TE}{mW:List (TE×TE)}(hk:PE X k tk)(hv:PE X v tv)(hr:ND X pos ks vs mW):ND X pos (some k::ks) (v::vs) ((tk,tv)::mW):=λae s σ H Q I h =>
 pairTrees_cons_walk (bX (hk ae s σ H _ I h) λu s1 ⟨x,H1,I1,rx,q1⟩=>bX (hv ae s1 σ H1 _ I1 q1) λw2 s2 ⟨y,H2,I2,ry,q2⟩ =>
  bX (hr ae s2 σ H2 _ I2 q2) λws s3 ⟨ps,H3,I3,mU,q3⟩=>⟨(x,y)::ps,H3,I3,.cons ⟨rx,ry⟩ mU,q3⟩)
def fP(au more:List (bD×V)):List (bD×V):=more.foldl (λacc kv=>eL acc kv.1 kv.2) au
theorem KV.merge:∀{more:List (bD×V)}{rs:List (bD×Value)}{au:List (bD×V)}{vs:List (bD×Value)},KV more rs->KV au vs->KV (fP au more) (merged vs rs):=by
 intro more rs au vs r;unfold KV at r
 induction r generalizing au vs with
 | nil=>intro q;exact q
 | @cons p q ps qs h t ih =>
  intro r0
  have e:KV (eL au p.1 p.2) (stored vs q.1 q.2):=by
   have:=r0.put p.1 h.2;rw[<- h.1];exact this
  exact ih e
theorem iP:∀(more au:List (bD×V)),(fP au more).length<=au.length+more.length
 | [],au=>by show au.length<=au.length+0;omega
 | p::r,au=>by
  have h1:=iP r (eL au p.1 p.2);have h2:=h_ au p.1 p.2;show(fP (eL au p.1 p.2) r).length<=_;rw[fJ];omega
theorem mX{P:Program}{w:World}:∀{au:List (bD×V)}{ws:List (Value×Value)},VV (au.map λkv=>(kV kv.1,kv.2)) ws->∃rs,Carries (bA P w) ws rs/\KV au rs
 | [],_,r=>by rw[lR]at r;cases r;exact⟨[],True.intro,.nil⟩
 | p::au,_,r=>by
  rw[eJ]at r
  cases r with
  | @cons a b as bs h t =>
   obtain⟨rs,c,q⟩:=mX (P:=P) (w:=w) t;obtain⟨b1,b2⟩:=b;exact⟨(p.1,b2)::rs,⟨pz h.1,rfl,c⟩,.cons ⟨rfl,h.2⟩ q⟩
def O7(mW:List (TE×TE)):TE:=λσ H Q=>∀p,H p=none->gB mW σ (bu H p (.dK [])) λps H2=>H2 p=some (.dK [])/\∃au:List (bD×V),ps=au.map (λkv=>(kV kv.1,kv.2))/\au.length<=15/\Q (.ref p) (bu H2 p (.dK (fP [] au)))
theorem Fx{X:Cx}{pos:Pos}{keys:List (Option Expr)}{mV:List Expr}{mW:List (TE×TE)}(h:ND X pos keys mV mW)(vM:keys.all (·.isSome)=true)(hl:keys.length=mV.length)(h0:keys≠[])(Ib:keys.length<=15):PE X (.Dict keys mV pos) (O7 mW):=by
 intro ae s σ H Q I q;have hn:=I.bw.fresh (aE s.heap.objs.size);have I1:=I.laid (a:=s.heap.objs.size) (o:=.dK []) (h':=s.heap.push {cls:=.type "dict",data:=.dict #[]}) (t':=s.toks) (λ_ _ q=>cI _ q) (aE _) (tu s.heap I.big);refine wpAny_Dict_walk (knd:=bA X.prog X.w) vM hl h0 Ib (bX (h ae _ σ _ _ I1 (q _ hn)) ?_);rintro ws s2 ⟨ps,H2,I2,mU,e,au,rfl,lk,q2⟩;obtain⟨rs,c,rk⟩:=mX (P:=X.prog) (w:=X.w) mU;obtain⟨z,hd,vs0,r0,dd⟩:=tm I2.bw e;cases r0;refine⟨rs,c,dd,λh' Ki hs=>⟨.ref s.heap.objs.size,_,?_,rfl,q2⟩⟩
 have hz:(fP [] au).length<=sizeLine:=by
  have h1:=iP au [];rw[kI]at h1;rw[sizeLine_eq];omega
 have he:∃q,h'.get? s.heap.objs.size=some q:=let ⟨q,_,_,hq,_⟩:=Ki;⟨q,hq⟩
 exact qF I2 (by rw[e];exact True.intro) hs he (BI hz hd (rk.merge .nil) Ki)
structure M1 (X:Cx) (o:Expr) (m:Str) (qD:Pos) (e:Expr) (cS:Pos):Prop where
 base:attributeBase o m X.env (eval o X.env)=eval o X.env
 YI:((backTo cS (starEach [e] X.env)).all (λx=>!x.1)&&(backToKw cS (keywordEach [] X.env)).all (λx=>x.1.isSome)
  && decide (([e]:List Expr).length+([]:List Keyword).length+(if ([]:List Keyword).isEmpty then 0 else 1)<30))=true
 line:(qD.endLine==cS.line)=true
 trees:backTo cS (starEach [e] X.env)=[(false,eval e X.env)]
structure M2 (X:Cx) (o:Expr) (m:Str) (qD:Pos) (e f:Expr) (cS:Pos):Prop where
 base:attributeBase o m X.env (eval o X.env)=eval o X.env
 YI:((backTo cS (starEach [e,f] X.env)).all (λx=>!x.1)&&(backToKw cS (keywordEach [] X.env)).all (λx=>x.1.isSome)
  && decide (([e,f]:List Expr).length+([]:List Keyword).length+(if ([]:List Keyword).isEmpty then 0 else 1)<30))=true
 line:(qD.endLine==cS.line)=true
 trees:backTo cS (starEach [e,f] X.env)=[(false,eval e X.env),(false,eval f X.env)]
end L2
namespace HT
open PySem PyProof.Rows
section
open PySem.SeqAt
open PySem.AutoSeq1 (wpAny_loadPart')
open PySem.MeetsSeq PySem.MeetsSeq2 PySem.MeetsSeq3
end
section
variable {prog:Program} {w:World} {A:Around} {E:Value->Shared->Prop} {s:Shared}
theorem Fy{t b:Addr}{vs ws:List Value}{Q:Value->Shared->Prop}(ht:IsTup s.heap t vs.toArray)(hb:IsTup s.heap b ws.toArray)(hv:vs≠[])(h1:ws=[]->Q (.ref t) s) (h2:ws≠[]->Q (.ref s.heap.objs.size) {s with heap:=s.heap.push {cls:=.type "tuple",data:=.seq (vs++ws).toArray}}) (hsz:vs.length+ws.length<=sizeLine):wpAny (model prog w) A (binaryOp .Add (.ref t) (.ref b)) Q E s:=by
 obtain⟨⟨cls,dd,data,sl⟩,ho,hc,n,hd⟩:=id ht;obtain⟨⟨Uh,R6,data2,R7⟩,BL,tw,n2,hd2⟩:=id hb;simp only at hc hd tw hd2;subst hc hd tw hd2;have e:vs.toArray++ws.toArray=(vs++ws).toArray:=by simp
 by_cases hw:ws=[]
 ·exact concat_meets ⟨_,ho,rfl⟩ ⟨_,BL,rfl⟩ noFill_tuple_add seq_tuple_add Jl Jk (Ji _ _)
   (tuple_addW1 t b vs.toArray ws.toArray n n2 dd R6 sl R7 (by simpa using hv) (by simp[hw])) ⟨ho,BL,h1 hw⟩
 ·refine concat_meets ⟨_,ho,rfl⟩ ⟨_,BL,rfl⟩ noFill_tuple_add seq_tuple_add Jl Jk (Ji _ _)
   (tuple_addW2 t b vs.toArray ws.toArray n n2 dd R6 sl R7 (by simpa using hv) (by simpa using hw) (by rw[df,df];exact hsz)) ⟨ho,BL,?_⟩
  rw[e];exact h2 hw
noncomputable def dG(n d:Nat):Option Int->Nat
 | none=>d
 | some v=>if v<0 then (v+(n:Int)).toNat else min v.toNat n
theorem Fz(n d k:Nat):dG n d (some (k:Int))=min k n:=by
 show(if (k:Int)<0 then ((k:Int)+(n:Int)).toNat else min (k:Int).toNat n)=min k n;rw[aP ∅,yT]
theorem Kk(n d:Nat)(hd:d<=n)(o:Option Int):dG n d o<=n:=by
 cases o with
 | none=>exact hd
 | some v =>
  show(if v<0 then (v+(n:Int)).toNat else min v.toNat n)<=n;by_cases hv:v<0
  ·rw[aF hv];omega
  ·rw[aP hv];exact Nat.min_le_right _ _
theorem xF(v:Int)(n d:Nat):(if v<0 then max (v+(n:Int)) 0 else min v (n:Int))=((dG n d (some v):Nat):Int):=by
 show(if v<0 then max (v+(n:Int)) 0 else min v (n:Int))=(((if v<0 then (v+(n:Int)).toNat else min v.toNat n):Nat):Int);by_cases hv:v<0
 ·simp only[aF hv];omega
 ·simp only[aP hv];omega
theorem vN(lo hi:Option Int)(n:Nat):Builtin.Slice.sliceAdjust lo hi 1 (n:Int)=(((dG n 0 lo:Nat):Int),((dG n n hi:Nat):Int)):=by
 have h1:¬((1:Int)<0):=∅;unfold Builtin.Slice.sliceAdjust;simp only[h1,oO];refine Prod.ext ?_ ?_
 ·cases lo with
  | none=>rfl
  | some v=>exact xF v n 0
 ·cases hi with
  | none=>rfl
  | some v=>exact xF v n n
theorem vO(i j:Nat):Builtin.Slice.slicePlaces (i:Int) (j:Int) 1=j-i:=by
 unfold Builtin.Slice.slicePlaces;have h1:(1:Int)>0:=∅;simp only[h1,dA,Int.ediv_one];split<;>omega
theorem mY{v:Value}{o:Option Int}{Q:Option Int->Shared->Prop}(p:IsPart v o)(h:Q o s):wpAny (model prog w) A (Builtin.Slice.slicePartIndex v) Q E s:=by
 cases p with
 | none=>exact slicePart_none h
 | int i t=>exact slicePart_int h
theorem kQ{sl:Addr}{vl vu:Value}{lo hi:Option Int}{n:Nat}{Q:Int×Int×Nat->Shared->Prop}(hs:s.heap.IsSliceOf sl vl vu .none)(pl:IsPart vl lo)(pu:IsPart vu hi)(h:Q (((dG n 0 lo:Nat):Int),1,dG n n hi-dG n 0 lo) s):wpAny (model prog w) A (Builtin.Slice.sliceApplied (.ref sl) (pure (n:Int))) Q E s:=by
 obtain⟨os,BM,O8,FA⟩:=id hs;unfold Builtin.Slice.sliceApplied Builtin.Slice.sliceFields;refine aj (aj (fL BM FA (x:=vl) rfl (aj (fL BM FA (x:=vu) rfl (aj (fL BM FA (x:=.none) rfl (aO ?_)))))));refine aj (slicePart_none ?_);show wpAny _ _ (if ((1:Int)==0)=true then _ else _) _ _ s;rw[aP (by decide)];refine aj (mY pl (aj (mY pu (aj (aO ?_)))));show wpAny _ _ (match Builtin.Slice.sliceAdjust lo hi 1 (n:Int)with | (lo,hi)=>pure (lo,(1:Int),Builtin.Slice.slicePlaces lo hi 1)) _ _ s;rw[vN lo hi n];show wpAny _ _ (pure (((dG n 0 lo:Nat):Int),(1:Int),Builtin.Slice.slicePlaces ((dG n 0 lo:Nat):Int) ((dG n n hi:Nat):Int) 1)) _ _ s;rw[vO];exact aO h
theorem BN(xs:Array Value)(i k:Nat):((List.range k).filterMap λ(m:Nat)=>xs[((i:Int)+(m:Int)*1).toNat]?).toArray=((xs.toList.drop i).take k).toArray:=by
 have e:(λ(m:Nat)=>xs[((i:Int)+(m:Int)*1).toNat]?)=λm=>xs[i+m]?:=by
  funext m;have:((i:Int)+(m:Int)*1).toNat=i+m:=∅;rw[this]
 rw[e];have:=pick_run xs i k;rw[List.filterMap_map]at this;have e2:((λx=>xs[x]?)∘λx=>i+x)=λm=>xs[i+m]?:=rfl;rw[e2]at this;rw[this]
theorem jO{t sl:Addr}{items:Array Value}{vl vu:Value}{lo hi:Option Int}{Q:Value->Shared->Prop}(ht:IsTup s.heap t items)(hs:s.heap.IsSliceOf sl vl vu .none)(pl:IsPart vl lo)(pu:IsPart vu hi)(hw:¬(dG items.size 0 lo=0/\dG items.size items.size hi=items.size)) (h:Q (.ref s.heap.objs.size) {s with heap:=s.heap.push {cls:=.type "tuple",data:=.seq ((items.toList.drop (dG items.size 0 lo)).take (dG items.size items.size hi-dG items.size 0 lo)).toArray}}) (hsz:items.size<=sizeLine):wpAny (model prog w) A (getItem (.ref t) (.ref sl)) Q E s:=by
 have xG:sizeOk (.seq ((items.toList.drop (dG items.size 0 lo)).take (dG items.size items.size hi-dG items.size 0 lo)).toArray):=by
  show((items.toList.drop (dG items.size 0 lo)).take (dG items.size items.size hi-dG items.size 0 lo)).toArray.size<=sizeLine;rw[df,dg,gZ,vt];omega
 have hj:dG items.size items.size hi<=items.size:=Kk _ _ (aE _) hi;obtain⟨os,BM,O8,FA⟩:=id hs;have Ui:s.TypeIs (.ref sl) "slice" := ⟨os,BM,O8⟩;unfold getItem
 try with_reducible refine mK ?_
 first | refine aj (aO ?_) | skip
 refine aj (wpAny_sequenceKey ht.typeIs (by decide) ?_)
 refine aj (yO (name:=Str.ofString "__getitem__") ht.typeIs yM
  (yX yM ht.typeIs entry_tuple_getitem ?_ (args_tuple_getitem _ _)))
 show wpAny _ _ (Builtin.Tuple.tupleItemsOf (.ref t) >>= _) _ _ s;refine aj (tupleItemsOf_ ht ?_);refine aj (Bd Ui ?_);rw[aF (by decide)];refine aj (kQ hs pl pu ?_)
 have NF:¬((((dG items.size 0 lo:Nat):Int)==0&&(1:Int)==1&&(dG items.size items.size hi-dG items.size 0 lo)==items.size)=true):=by
  intro q;rw[aR,aR]at q;have q1:((dG items.size 0 lo:Nat):Int)=0:=eq_of_beq q.1.1;have q2:dG items.size items.size hi-dG items.size 0 lo=items.size:=eq_of_beq q.2;exact hw ⟨∅,∅⟩
 show wpAny _ _ (if (((dG items.size 0 lo:Nat):Int)==0&&(1:Int)==1&&(dG items.size items.size hi-dG items.size 0 lo)==items.size)=true then _ else _) _ _ s;rw[aP NF,BN]
 first
  | exact aj (m:=Builtin.Tuple.tupleExact _) (lP (aO ⟨_,rfl,aO h⟩) xG)
  | exact aj (m:=Builtin.Tuple.tupleExact _) (lP (aj (aO (aO ⟨_,rfl,aO h⟩))) xG)
  | exact aj (aj (m:=Builtin.Tuple.tupleExact _) (lP (aO (aO ⟨_,rfl,aO h⟩)) xG))
  | exact aj (aj (m:=Builtin.Tuple.tupleExact _) (lP (aO ⟨_,rfl,aO h⟩) xG))
end
end HT
namespace L2
open PySem PySem.Spec PyProof.Rows
abbrev TO:=St->Hp->(Option Int->Hp->Prop)->Prop
noncomputable def PO(X:Cx)(e:Option Expr)(t:TO):Prop :=
 ∀(ae:List (Addr×Obj))(s:Shared)(σ:St)(H:Hp)(Q:Option Int->Hp->Prop),Inv X ae σ H s->t σ H Q ->
  wpAny (model X.prog X.w) X.A (evalPart e X.env) (λu s'=>∃o H',Inv X ae σ H' s'/\IsPart u o/\Q o H') X.xe s
def FC:TO:=λ_ H Q=>Q none H
noncomputable def O9(t:TE):TO:=λσ H Q=>t σ H λx H1=>∃i,x=.int i/\Q (some i) H1
section
variable {X:Cx} {e:Expr} {te:TE} {lo hi:Option Expr} {tl th:TO} {pos p2:Pos}
theorem FD:PO X none FC:=by
 intro ae s σ H Q I h;rw[evalPart_none];exact aO ⟨none,H,I,.none,h⟩
theorem FE(h:PE X e te):PO X (some e) (O9 te):=by
 intro ae s σ H Q I hw;rw[evalPart_some];refine bX (h ae s σ H _ I hw) ?_;rintro u s1 ⟨x,H1,I1,r1,q1⟩;obtain⟨i,rfl,q⟩:=q1;obtain⟨t,rfl⟩:=r1;exact⟨some i,H1,I1,.int i t,q⟩
def R8(X:Cx)(r:V->Option Int->Option Int->Hp->VK->Prop):Prop :=
 ∀(ae:List (Addr×Obj))(s:Shared)(σ:St)(H:Hp)(x:V)(v vl vu:Value)(lo hi:Option Int)(sl:Addr)(Q:VK),Inv X ae σ H s->RelV x v->s.heap.IsSliceOf sl vl vu .none->IsPart vl lo->IsPart vu hi->r x lo hi H Q ->
  ∃T id,typeLookup (.type T) "__getitem__" = pure (some (.builtin id))/\s.TypeIs v T/\wpAny (model X.prog X.w) X.A (getItem v (.ref sl)) (EP X ae σ Q) X.xe s
noncomputable def YJ(r:V->Option Int->Option Int->Hp->VK->Prop)(te:TE)(tl th:TO):TE:=λσ H Q=>te σ H λx H1=>tl σ H1 λl H2=>th σ H2 λu H3=>r x l u H3 Q
theorem BO{r:V->Option Int->Option Int->Hp->VK->Prop}(hr:R8 X r)(he:PE X e te)(hl:PO X lo tl)(hu:PO X hi th):PE X (.Subscript e (.Slice lo hi none p2) pos) (YJ r te tl th):=by
 intro ae s σ H Q I h;refine Subscript_ (bX (he ae s σ H _ I h) ?_);rintro v s1 ⟨x,H1,I1,r1,q1⟩;refine wpAny_Slice (bX (hl ae s1 σ H1 _ I1 q1) λvl s2 ⟨l,H2,I2,pl,q2⟩=>bX (hu ae s2 σ H2 _ I2 q2) λvu s3 ⟨u,H3,I3,pu,q3⟩=>?_);rw[evalPart_none];refine aO ?_;have I4:Inv X ae σ H3 {s3 with heap:=s3.heap.push {cls:=.type "slice",data:=.fields #[vl,vu,.none]}}:=I3.kept (t':=s3.toks) λb ob q=>cI _ q;obtain⟨T,id,hT,ht,hg⟩:=hr ae {s3 with heap:=s3.heap.push {cls:=.type "slice",data:=.fields #[vl,vu,.none]}} σ H3 x v vl vu l u s3.heap.objs.size Q I4 r1 (Heap.IsSliceOf.new ..) pl pu q3;show wpAny (model X.prog X.w) X.A (subscriptTail e (.Slice lo hi none p2) v (.ref s3.heap.objs.size)) (EP X ae σ Q) X.xe {s3 with heap:=s3.heap.push {cls:=.type "slice",data:=.fields #[vl,vu,.none]}};exact tail_any (ops:=[.ref s3.heap.objs.size,v]) ht hT hg (by with_unfolding_all rfl)
def tx(xs:List V)(lo hi:Option Int):List V:=(xs.drop (HT.dG xs.length 0 lo)).take (HT.dG xs.length xs.length hi-HT.dG xs.length 0 lo)
theorem lD(xs:List V)(lo hi:Option Int):(tx xs lo hi).length<=xs.length:=by
 unfold tx;rw[dg,gZ];omega
def Uj(K:Frag):V->Option Int->Option Int->Hp->VK->Prop:=λx lo hi H Q=>∃a xs,x=.ref a/\gx K H a xs /\
 ¬(HT.dG xs.length 0 lo=0/\HT.dG xs.length xs.length hi=xs.length)/\∀p,H p=none->Q (.ref p) (bu H p (.tup (tx xs lo hi)))
theorem Kl:R8 X (Uj X.K):=by
 intro ae s σ H x v vl vu lo hi sl Q I rx hs pl pu h;obtain⟨a,xs,rfl,hx,hw,q⟩:=h;cases rx;obtain⟨aA,r,ht,hz⟩:=I.tuple hx;have aJ:aA.toArray.size=xs.length:=by rw[df];exact r.length.symm
 refine⟨"tuple",_,yM.lookup,ht.typeIs,?_⟩;refine HT.jO ht hs pl pu (by rw[aJ];exact hw) ?_ (by rw[aJ];exact hz);rw[aJ];refine⟨.ref s.heap.objs.size,_,I.laid (t':=s.toks) (o:=.tup (tx xs lo hi)) (λb ob q=>cI _ q) (aE _) ?_,rfl,q _ (I.bw.fresh (aE _))⟩;exact⟨bJ (lD xs lo hi) hz,_,(r.drop (HT.dG xs.length 0 lo)).take (HT.dG xs.length xs.length hi-HT.dG xs.length 0 lo),IsTup.new _ _⟩
def O_(K:Frag):R2:=λx y H Q=>∃a b xs ys,x=.ref a/\y=.ref b/\gx K H a xs/\gx K H b ys/\xs≠[]/\xs.length+ys.length<=sizeLine /\
 (ys=[]->Q (.ref a) H)/\(ys≠[]->∀p,H p=none->Q (.ref p) (bu H p (.tup (xs++ys))))
theorem aQ.qG{xs:List V}{us:List Value}(r:aQ xs us):us=[]↔xs=[]:=by
 cases r with
 | nil=>simp
 | cons _ _=>simp
theorem FF:iO X (binaryOp .Add) (O_ X.K):=by
 intro ae s σ H x y v u Q I rx ry h;obtain⟨a,b,xs,ys,rfl,rfl,ha,hb,hx,hz,q1,q2⟩:=h;cases rx;cases ry;obtain⟨aA,r1,p1,_⟩:=I.tuple ha;obtain⟨BP,r2,p2,_⟩:=I.tuple hb;refine HT.Fy p1 p2 (λz=>hx (r1.qG.mp z)) (λz=>⟨.ref a,H,I,rfl,q1 (r2.qG.mp z)⟩) (λz=>?_) (by rw[<- r1.length,<- r2.length];exact hz);refine⟨.ref s.heap.objs.size,_,I.laid (t':=s.toks) (o:=.tup (xs++ys)) (λb ob q=>cI _ q) (aE _) ?_,rfl,q2 (λw=>z (r2.qG.mpr w)) _ (I.bw.fresh (aE _))⟩;exact⟨by rw[dz];exact hz,_,r1.append r2,IsTup.new _ _⟩
end
noncomputable def BQ(n:Nat)(i:Int):Option Nat:=if 0<=i then (if i<n then some i.toNat else none) else if -(n:Int)<=i then some (i+n).toNat else none
def xH{α:Type}(xs:List α)(i:Int):Option α:=(BQ xs.length i).bind λj=>xs[j]?
theorem xI{n:Nat}{i:Int}{j:Nat}(h:BQ n i=some j):seqIndex? i n=some j/\j<n/\-(n:Int)<=i/\i<n:=by
 unfold BQ at h;by_cases h0:0<=i
 ·rw[aF h0]at h;by_cases h1:i<n
  ·rw[aF h1]at h;have e:i.toNat=j:=cR h;exact⟨by rw[seqIndex_of h0 h1,e],∅,∅,h1⟩
  ·rw[aP h1]at h;cases h
 ·rw[aP h0]at h;by_cases h1:-(n:Int)<=i
  ·rw[aF h1]at h;have e:(i+n).toNat=j:=cR h;exact⟨by rw[seqIndex_neg ∅ h1,e],∅,h1,∅⟩
  ·rw[aP h1]at h;cases h
theorem qH{α:Type}{xs:List α}{i:Int}{v:α}(h:xH xs i=some v):∃j,seqIndex? i xs.length=some j/\xs[j]?=some v/\j<xs.length/\-(xs.length:Int)<=i/\i<xs.length:=by
 unfold xH at h
 cases e:BQ xs.length i with
 | none=>rw[e]at h;cases h
 | some j =>
  rw[e]at h;obtain⟨h1,h2,h3,h4⟩:=xI e;exact⟨j,h1,h,h2,h3,h4⟩
noncomputable def xJ(b:Expr):Prop:=∀o i,subscripted b false o i=operate [o,i] (getItem o i)
def Pa(X:Cx)(r:R2):Prop :=
 ∀(value jP:Expr)(ae:List (Addr×Obj))(s:Shared)(σ:St)(H:Hp)(x y:V)(v u:Value)(Q:VK),Inv X ae σ H s->RelV x v->RelV y u->r x y H Q ->
  subscripted jP false v u=operate [v,u] (getItem v u)->wpAny (model X.prog X.w) X.A (subscriptTail value jP v u) (EP X ae σ Q) X.xe s
def Pb(X:Cx)(id:String)(r:V->List V->Hp->VK->Prop):Prop :=
 ∀(ae:List (Addr×Obj))(s:Shared)(σ:St)(H:Hp)(x:V)(xs:List V)(v:Value)(us:List Value)(Q:VK),Inv X ae σ H s->RelV x v->aQ xs us->r x xs H Q ->
  wpAny (model X.prog X.w) X.A (call (.builtin id) (v::us)) (EP X ae σ Q) X.xe s
section
variable {X:Cx} {a b:Expr} {ta tb:TE} {pos:Pos}
theorem Pc{r:R2}(hr:Pa X r)(ha:PE X a ta)(hb:PE X b tb)(hs:xJ b):PE X (.Subscript a b pos) (Fh r ta tb):=by
 intro ae s σ H Q I h;exact Subscript_ (J1 ha hb I h λv u s2 x y H2 I2 rx ry q=>hr a b ae s2 σ H2 x y v u Q I2 rx ry q (hs _ _))
def Uk(K:Frag):R2:=λx y H Q=>∃p xs i v,x=.ref p/\y=.int i/\fN K H p xs/\xH xs i=some v/\Q v H
def Ul(K:Frag):R2:=λx y H Q=>∃p xs i v,x=.ref p/\y=.int i/\gx K H p xs/\xH xs i=some v/\Q v H
def Um:R2:=λx y H Q=>∃z i c,x=.str z/\y=.int i/\z.length<=sizeLine/\xH z.cps.toList i=some c/\Q (.str ⟨#[c]⟩) H
theorem FG:Pa X (Uk X.K):=by
 intro value jP ae s σ H x y v u Q I rx ry h hs;obtain⟨p,xs,i,z,rfl,rfl,hq,he,q⟩:=h;cases rx;obtain⟨t,rfl⟩:=ry;obtain⟨aA,r,pl,hz⟩:=I.list hq;obtain⟨j,h1,h2,h3,h4,h5⟩:=qH he;obtain⟨w,ew,zv⟩:=r.get h2;have hl:=r.length;have hn:=jd;have fin:EP X ae σ Q w s:=⟨z,H,I,zv,q⟩;by_cases h0:0<=i
 ·have hj:i.toNat=j:=by
   rw[seqIndex_of h0 h5]at h1;exact cR h1
  exact item_listR pl.isList h0 ∅ (by rw[hj];simpa using ew) fin hs
 ·have hj:(i+(aA.toArray.size:Int)).toNat=j:=by
   rw[seqIndex_neg ∅ h4]at h1;rw[df,<- hl];exact cR h1
  exact subscriptTail_builtinR (x:=w) pl.isList.typeIs slot_list_getitem.lookup
   (wpAny_getItem_list_neg (Q:=λr s'=>r=w/\EP X ae σ Q r s') pl.isList ∅ (by rw[df]<;>omega) ∅ (by rw[hj];simpa using ew) ⟨rfl,fin⟩) hs
theorem Km:Pa X (Ul X.K):=by
 intro value jP ae s σ H x y v u Q I rx ry h hs;obtain⟨p,xs,i,z,rfl,rfl,hq,he,q⟩:=h;cases rx;obtain⟨t,rfl⟩:=ry;obtain⟨aA,r,pl,hz⟩:=I.tuple hq;obtain⟨j,h1,h2,h3,h4,h5⟩:=qH he;obtain⟨w,ew,zv⟩:=r.get h2;have hl:=r.length;have hn:=jd;have fin:EP X ae σ Q w s:=⟨z,H,I,zv,q⟩
 exact subscriptTail_builtinR (x:=w) pl.typeIs slot_tuple_getitem.lookup
  (getItem_tuple (j:=j) (Q:=λr s'=>r=w/\EP X ae σ Q r s') pl ∅ ∅ (by rw[df,<- hl];exact h1) (by simpa using ew) ⟨rfl,fin⟩) hs
theorem Kn:Pa X Um:=by
 intro value jP ae s σ H x y v u Q I rx ry h hs;obtain⟨z,i,c,rfl,rfl,hz,he,q⟩:=h;obtain⟨t,rfl⟩:=rx;obtain⟨t',rfl⟩:=ry;obtain⟨j,h1,h2,h3,h4,h5⟩:=qH he;have hl:z.cps.toList.length=z.length:=by simp[Str.length]
 rw[hl]at h1 h4 h5;have hn:=jd
 exact tail_any (typeIs_str s z t) slot_str_getitem.lookup (getItem_str (c:=c) (by
  have e1:decide (i < -(2 ^ 63:Int))=false:=eU ∅;have e2:decide (i ≥ 2 ^ 63)=false:=eU ∅;rw[e1,e2,Bool.or_false]) (by rw[h1];simpa using h2) ⟨.str ⟨#[c]⟩,H,I.tok _,⟨_,rfl⟩,q⟩) hs
theorem vP(aA:List Value)(n j:Nat)(u:Value):Obj.mapSeq (·.setIfInBounds j u) {cls:=.type "list",data:=.seq aA.toArray n}={cls:=.type "list",data:=.seq (aA.set j u).toArray n}:=by
 simp[Obj.mapSeq]
theorem Inv.lst{ae:List (Addr×Obj)}{σ:St}{H:Hp}{s:Shared}{p:Addr}{xs:List V}(I:Inv X ae σ H s)(h:H p=some (.lst xs)):∃(aA:List Value) (n:Nat),aQ xs aA/\s.heap.get? p=some {cls:=.type "list",data:=.seq aA.toArray n}/\xs.length<=sizeLine:=by
 obtain⟨z,aA,n,r,e⟩:=I.bw p _ h;exact⟨aA,n,r,e,z⟩
theorem Inv.Ko{ae:List (Addr×Obj)}{σ:St}{H:Hp}{s:Shared}{p:Addr}{xs ys:List V}{aA its':List Value}{n n':Nat}{f:Obj->Obj}(I:Inv X ae σ H s)(h:H p=some (.lst xs)) (ho:s.heap.get? p=some {cls:=.type "list",data:=.seq aA.toArray n}) (hf:f {cls:=.type "list",data:=.seq aA.toArray n}={cls:=.type "list",data:=.seq its'.toArray n'}) (r:aQ ys its') (hz:ys.length<=sizeLine) (t:Nat):Inv X ae σ (bu H p (.lst ys)) {s with heap:=s.heap.update p f,toks:=t}:=by
 have e:(s.heap.update p f).get? p=some {cls:=.type "list",data:=.seq its'.toArray n'}:=by
  rw[yP f ho (by rw[hf]<;>rfl),hf]
 refine I.write (x:=p) (e:=p) (by rw[h];trivial) (.inl rfl) (λb u hb q=>(sI _ _ (cN hb)).trans q) ⟨_,e⟩ ?_;exact⟨hz,its',n',r,e⟩
def Pd:V->V->V->Hp->(Hp->Prop)->Prop:=λo i v H Q=>∃p xs k j,o=.ref p/\i=.int k/\H p=some (.lst xs)/\BQ xs.length k=some j/\Q (bu H p (.lst (xs.set j v)))
theorem BR:JW X Pd:=by
 intro ae s σ H o i v ov iv u Q I ro ri rv h;obtain⟨p,xs,k,j,rfl,rfl,hp,hj,q⟩:=h;cases ro;obtain⟨t,rfl⟩:=ri;obtain⟨aA,n,r,ho,hz⟩:=I.lst hp;obtain⟨h1,h2,h3,h4⟩:=xI hj;have hl:=r.length;have hn:=jd
 have I':Inv X ae σ (bu H p (.lst (xs.set j v))) {s with heap:=s.heap.update p (Obj.mapSeq (·.setIfInBounds j u))} :=
  I.Ko hp ho (vP aA n j u) (r.set rv j) (by rw[ja];exact hz) s.toks
 by_cases h0:0<=k
 ·have hk:k.toNat=j:=by
   rw[seqIndex_of h0 h4]at h1;exact cR h1
  exact PySem.W.ki_setAt ho h0 ∅ (by rw[df,<- hl];exact h4) (by rw[hk];exact⟨_,I',q⟩)
 ·have hk:(k+(aA.toArray.size:Int)).toNat=j:=by
   rw[seqIndex_neg ∅ h3]at h1;rw[df,<- hl];exact cR h1
  exact PySem.W.ki_setBack ho ∅ (by rw[df,<- hl];exact h3) ∅ (by rw[hk];exact⟨_,I',q⟩)
theorem qI(lo hi:Option Int)(n:Nat):(sliceBounds lo hi none n).1=((HT.dG n 0 lo:Nat):Int)/\(sliceBounds lo hi none n).2.1=((HT.dG n n hi:Nat):Int)/\(sliceBounds lo hi none n).2.2=1:=by
 refine⟨?_,?_,rfl⟩
 ·cases lo with
  | none=>simp[sliceBounds,HT.dG]
  | some i =>
   simp only[sliceBounds,HT.dG,Option.getD_none,show(1:Int)>0 by decide,dA];by_cases h:i<0
   ·simp only[h,dA]<;>omega
   ·simp only[h,oO]<;>omega
 ·cases hi with
  | none=>simp[sliceBounds,HT.dG]
  | some i =>
   simp only[sliceBounds,HT.dG,Option.getD_none,show(1:Int)>0 by decide,dA];by_cases h:i<0
   ·simp only[h,dA]<;>omega
   ·simp only[h,oO]<;>omega
theorem oR(aA:List Value)(lo hi:Option Int):slicePick aA.toArray lo hi none=((aA.drop (HT.dG aA.length 0 lo)).take (HT.dG aA.length aA.length hi-HT.dG aA.length 0 lo)).toArray:=by
 obtain⟨h1,h2,h3⟩:=qI lo hi aA.toArray.size;unfold slicePick;rw[h1,h2,h3];simp only[sliceRange_one,pick_run,df]<;>rfl
def Uo(K:Frag):V->Option Int->Option Int->Hp->VK->Prop:=λx lo hi H Q=>∃a xs,x=.ref a/\fN K H a xs/\∀p,H p=none->Q (.ref p) (bu H p (.lst (tx xs lo hi)))
theorem FH:R8 X (Uo X.K):=by
 intro ae s σ H x v vl vu lo hi sl Q I rx hs pl pu h;obtain⟨a,xs,rfl,hx,q⟩:=h;cases rx;obtain⟨aA,r,ht,hz⟩:=I.list hx;have aJ:=r.length;refine⟨"list",_,slot_list_getitem.lookup,ht.isList.typeIs,?_⟩;refine wpAny_getItem_list_slice ht.isList hs pl pu .none (by simp) ?_ (by rw[df]<;>omega);rw[oR,<- aJ];refine⟨.ref s.heap.objs.size,_,I.laid (t':=s.toks) (o:=.lst (tx xs lo hi)) (λb ob q=>cI _ q) (aE _) ?_,rfl,q _ (I.bw.fresh (aE _))⟩;exact⟨bJ (lD xs lo hi) hz,_,0,(r.drop (HT.dG xs.length 0 lo)).take (HT.dG xs.length xs.length hi-HT.dG xs.length 0 lo),gX _ rfl⟩
theorem qJ:dW X (.builtin "len") (λxs H Q=>∃p ys,xs=[.ref p]/\(fN X.K H p ys\/gx X.K H p ys)/\Q (.int ys.length) H):=by
 intro ae s σ H xs us Q I r h;obtain⟨p,ys,rfl,hq,q⟩:=h;obtain⟨u,rfl,rx⟩:=vals1 r;cases rx;have hn:=jd;rcases hq with hq | hq
 ·obtain⟨aA,r',pl,hz⟩:=I.list hq;have aJ:=r'.length;exact Calls.call_len_list pl.isList (by simp only[df]<;>omega) ⟨.int ys.length,H,I.tok _,⟨s.toks+1,by rw[df,aJ]⟩,q⟩
 ·obtain⟨aA,r',pl,hz⟩:=I.tuple hq;have aJ:=r'.length;exact len_tuple pl (by simp only[df]<;>omega) ⟨.int ys.length,H,I.tok _,⟨s.toks+1,by rw[df,aJ]⟩,q⟩
theorem qK:dW X (.builtin "len") (λxs H Q=>∃z,xs=[.str z]/\z.length<=sizeLine/\Q (.int z.length) H):=by
 intro ae s σ H xs us Q I r h;obtain⟨z,rfl,hz,q⟩:=h;obtain⟨u,rfl,t,rfl⟩:=vals1 r;have hn:=jd;exact len_str ∅ ⟨.int z.length,H,I.tok _,⟨_,rfl⟩,q⟩
theorem qL:dW X (.type "list") (λxs H Q=>∃p ys,xs=[.ref p]/\(fN X.K H p ys\/gx X.K H p ys)/\∀l,H l=none->Q (.ref l) (bu H l (.lst ys))):=by
  intro ae s σ H xs us Q I r h;obtain⟨p,ys,rfl,hq,q⟩:=h;obtain⟨u,rfl,rx⟩:=vals1 r;cases rx
  have fin : ∀ (aA : List Value), aQ ys aA -> ys.length <= sizeLine -> ∀ (h' : Heap) (c' : Nat), (∀ b o', s.heap.get? b = some o' -> h'.get? b = some o') ->
      h'.get? s.heap.objs.size=some {cls:=.type "list",dict:=none,data:=.seq aA.toArray c',slots:=#[]}->EP X ae σ Q (.ref s.heap.objs.size) {s with heap:=h'}:=λaA r' hz h' c' kp e =>
    ⟨.ref s.heap.objs.size,_,I.laid (t':=s.toks) kp (aE _) (show bL X.prog X.w _ h' _ (.lst ys) from ⟨hz,aA,c',r',e⟩),rfl,q _ (I.bw.fresh (aE _))⟩
  rcases hq with hq | hq
  · obtain⟨aA,r',pl,hz⟩:=I.list hq;have aJ:=r'.length;obtain⟨o,ho,hc,n,hd⟩:=pl.isList;exact call_list_seq p (.inl rfl) ho hc hd (λh' c' kp e=>fin aA r' hz h' c' kp e) (by simp only[df]<;>omega)
  · obtain⟨aA,r',pl,hz⟩:=I.tuple hq;have aJ:=r'.length;obtain⟨o,ho,hc,n,hd⟩:=pl;exact call_list_seq p (.inr rfl) ho hc hd (λh' c' kp e=>fin aA r' hz h' c' kp e) (by simp only[df]<;>omega)
theorem iQ:dW X (.type "tuple") (λxs H Q=>∃p ys,xs=[.ref p]/\((fN X.K H p ys/\∀l,H l=none->Q (.ref l) (bu H l (.tup ys)))\/(gx X.K H p ys/\Q (.ref p) H))):=by
 intro ae s σ H xs us Q I r h;obtain⟨p,ys,rfl,h⟩:=h;obtain⟨u,rfl,rx⟩:=vals1 r;cases rx;rcases h with⟨hq,q⟩|⟨hq,q⟩
 ·obtain⟨aA,r',pl,hz⟩:=I.list hq;have aJ:=r'.length;refine call_tuple_list pl.isList (λh' kp=>?_) (by simp only[df]<;>omega);have I1:Inv X ae σ H {s with heap:=h'}:=I.kept (t':=s.toks) kp
  have I2:Inv X ae σ (bu H h'.objs.size (.tup ys)) {s with heap:=h'.push {cls:=.type "tuple",data:=.seq aA.toArray}} :=
   I1.laid (t':=s.toks) (λb o e=>cI _ e) (aE _) (show bL X.prog X.w _ _ _ (.tup ys) from ⟨hz,aA,r',IsTup.new _ _⟩)
  exact⟨.ref h'.objs.size,_,I2,rfl,q _ (I1.bw.fresh (aE _))⟩
 ·obtain⟨aA,r',pl,hz⟩:=I.tuple hq;exact call_tuple_same pl ⟨.ref p,H,I,rfl,q⟩
def Up(K:Frag)(T:String)(x:V)(H:Hp):Prop:=match x with
  | .str _=>T = "str"
  | .int _=>T = "int"
  | .ref p => (T = "list" /\ ∃ xs, fN K H p xs) \/ (T = "tuple" /\ ∃ o, K.lookup p = some o /\ o.cls = .type "tuple" /\ o.dict = none) \/
      (T = "dict" /\ ((∃au,H p=some (.dK au))\/∃au,H p=some (.dT au)))\/(T = "set" /\ ∃S n,H p=some (.set S n))
  | _=>False
theorem BS{ae:List (Addr×Obj)}{σ:St}{H:Hp}{s:Shared}{T:String}{x:V}{v:Value}(I:Inv X ae σ H s)(r:RelV x v)(ty:Up X.K T x H):s.TypeIs v T/\∀a,v=.ref a->∃ob,s.heap.get? a=some ob/\ob.dict=none:=by
 cases x with
 | str z =>
  obtain⟨t,rfl⟩:=r;cases (show T = "str" from ty);exact⟨typeIs_str s z t,λ_ e=>nomatch e⟩
 | int i =>
  obtain⟨t,rfl⟩:=r;cases (show T = "int" from ty);exact⟨typeIs_int s i t,λ_ e=>nomatch e⟩
 | ref p =>
  cases r;rcases ty with⟨rfl,xs,hq⟩|⟨rfl,o,hk,hc,hd⟩|⟨rfl,hk⟩|⟨rfl,S,n,hk⟩
  ·obtain⟨aA,_,pl,_⟩:=I.list hq;refine⟨pl.isList.typeIs,λa e=>?_⟩;cases e;obtain⟨o,n,e,c,hd,_⟩:=pl;exact⟨o,e,hd⟩
  ·refine⟨⟨o,I.kB p o hk,hc⟩,λa e=>?_⟩;cases e;exact⟨o,I.kB _ o hk,hd⟩
  ·have z:∃o,s.heap.get? p=some o/\o.ExactDict:=by
    rcases hk with⟨au,hk⟩|⟨au,hk⟩
    ·obtain⟨_,_,_,_,o,_,_,e,ex,_⟩:=I.bw p _ hk;exact⟨o,e,ex⟩
    ·obtain⟨_,_,_,_,o,_,_,e,ex,_⟩:=I.bw p _ hk;exact⟨o,e,ex⟩
   obtain⟨o,e,ex⟩:=z;refine⟨⟨o,e,ex.1⟩,λa e2=>?_⟩;cases e2;exact⟨o,e,ex.2.1⟩
  ·obtain⟨o,_,_,_,e,ex,_⟩:=I.bw p _ hk;refine⟨⟨o,e,ex.1⟩,λa e2=>?_⟩;cases e2;exact⟨o,e,ex.2.1⟩
 | _=>exact False.elim ty
def Pe(K:Frag)(T:String)(r:V->List V->Hp->VK->Prop)(to:TE):TE:=λσ H Q=>to σ H λx H1=>Up K T x H1/\r x [] H1 Q
def WG(K:Frag)(T:String)(r:V->List V->Hp->VK->Prop)(to:TE)(t:TA):TE:=λσ H Q=>to σ H λx H1=>Up K T x H1/\t σ H1 λxs H2=>r x xs H2 Q
variable {o e:Expr} {es:List Expr} {to:TE} {t:TA} {name:Str} {qD cS:Pos} {T id:String} {r:V->List V->Hp->VK->Prop}
theorem BU(pa:PlainAttrs T)(slot:Slot T name id) (Uq:typeOf (.builtin id)=pure (.type "method_descriptor")) (hm:Pb X id r) (ho:PE X o to) (BV:attributeBase o name X.env (eval o X.env)=eval o X.env:=by rfl) (BW:(qD.endLine==cS.line)=true:=by rfl):PE X (.Call (.Attribute o name qD) [] [] cS) (Pe X.K T r to):=by
 intro ae s σ H Q I h;refine wpAny_Call_method0_late BV BW (bX (ho ae s σ H _ I h) ?_);rintro v s1 ⟨x,H1,I1,r1,ty,q1⟩;obtain⟨h1,h2⟩:=BS I1 r1 ty;exact⟨T,id,pa,slot,Uq,h1,h2,Calls.callWith_builtin rfl (PySem.evalArgs_none (hm ae s1 σ H1 x [] v [] Q I1 r1 .nil q1))⟩
theorem Ic (pa : PlainAttrs T) (slot : Slot T name id) (Uq : typeOf (.builtin id) = pure (.type "method_descriptor")) (hm : Pb X id r) (ho : PE X o to) (ha : PA X (e :: es) t)
    (BV:attributeBase o name X.env (eval o X.env)=eval o X.env:=by rfl)
    (FI:((backTo cS (starEach (e::es) X.env)).all (λx=>!x.1)&&(backToKw cS (keywordEach [] X.env)).all (λx=>x.1.isSome)
      && decide ((e::es).length+([]:List Keyword).length+(if ([]:List Keyword).isEmpty then 0 else 1)<30))=true:=by rfl)
    (BW:(qD.endLine==cS.line)=true:=by rfl) (hs:starEach (e::es) X.env=(false,eval e X.env)::starEach es X.env:=by rfl) (Kp:(backTo cS (starEach es X.env)).any (·.1)=false:=by rfl) :
    PE X (.Call (.Attribute o name qD) (e::es) [] cS) (WG X.K T r to t):=by
  intro ae s σ H Q I h;refine wpAny_Call_method_late BV FI BW rfl (bX (ho ae s σ H _ I h) ?_);rintro v s1 ⟨x,H1,I1,r1,ty,q1⟩;obtain⟨h1,h2⟩:=BS I1 r1 ty;refine⟨T,id,pa,slot,Uq,h1,h2,?_⟩;have hA:=ha cS ae s1 σ H1 _ I1 q1;rw[hs]at hA⊢;refine Calls.callWith_builtin (by show(false||(backTo cS (starEach es X.env)).any (·.1))=false;rw[Kp]<;>rfl) (Calls.evalArgs_plain ?_);exact bX hA λus s2 ⟨vs,H2,I2,r2,q2⟩=>hm ae s2 σ H2 x vs v us Q I2 r1 r2 q2
end
def YK(X:Cx)(id:String)(r:V->List V->Hp->VK->Prop):Prop :=
 ∀(ae:List (Addr×Obj))(s:Shared)(σ:St)(H:Hp)(x:V)(xs:List V)(v:Value)(us:List Value)(Q:VK),Inv X ae σ H s->RelV x v->aQ xs us->r x xs H Q ->
  wpAny (model X.prog X.w) X.A (call (.builtin id) (v::us)) (EP X ae σ Q) X.xe s
theorem aQ.one{x:V}{us:List Value}(h:aQ [x] us):∃u,us=[u]/\RelV x u:=by
 cases h with
 | cons r t=>cases t;exact⟨_,rfl,r⟩
theorem aQ.two{x y:V}{us:List Value}(h:aQ [x,y] us):∃u v,us=[u,v]/\RelV x u/\RelV y v:=by
 cases h with
 | cons r t=>obtain⟨v,rfl,q⟩:=aQ.one t;exact⟨_,v,rfl,r,q⟩
theorem aQ.dropLast{xs:List V}{us:List Value}(h:aQ xs us):aQ xs.dropLast us.dropLast:=by
 induction h with
 | nil=>exact .nil
 | cons r t ih =>
  cases t with
  | nil=>exact .nil
  | cons q t'=>exact .cons r ih
theorem aQ.reverse{xs:List V}{us:List Value}(h:aQ xs us):aQ xs.reverse us.reverse:=by
 induction h with
 | nil=>exact .nil
 | cons r t ih=>rw[List.reverse_cons,List.reverse_cons];exact aQ.append ih (.cons r .nil)
theorem aQ.rep{xs:List V}{us:List Value}(h:aQ xs us):∀k:Nat,aQ (List.replicate k xs).flatten (List.replicate k us).flatten
 | 0=>.nil
 | k+1=>by
  rw[yQ,yQ,AN,AN];exact aQ.append h (aQ.rep h k)
theorem foldl_rep(aA:List Value):∀(k:Nat)(acc:List Value),List.foldl (λx1 x2=>x1++x2) acc.toArray (List.replicate k aA.toArray)=(acc++(List.replicate k aA).flatten).toArray
 | 0,acc=>by simp
 | k+1,acc=>by
  have e:acc.toArray++aA.toArray=(acc++aA).toArray:=by simp
  have e2:(acc++aA)++(List.replicate k aA).flatten=acc++(List.replicate (k+1) aA).flatten:=by
   rw[yQ,AN,yU]
  rw[<- e2,<- foldl_rep aA k (acc++aA),<- e,yQ,List.foldl_cons]
section
variable {X:Cx} {ae:List (Addr×Obj)} {σ:St} {H:Hp} {s:Shared} {l b:Addr} {xs ys zs:List V}
theorem Inv.Pf{aA its':List Value}{n:Nat}{f:Array Value->Array Value}{t':Nat}(I:Inv X ae σ H s)(hH:H l=some (.lst xs)) (e:s.heap.get? l=some {cls:=.type "list",data:=.seq aA.toArray n}) (hf:f aA.toArray=its'.toArray) (hv:aQ ys its') (hz:ys.length<=sizeLine):Inv X ae σ (bu H l (.lst ys)) {s with heap:=s.heap.update l (Obj.mapSeq f),toks:=t'}:=by
 have q:=PySem.IsL.update e f;rw[hf]at q;refine I.write (x:=l) (e:=l) (by rw[hH];exact trivial) (.inl rfl) (λb' u hb hu=>(sI s.heap (Obj.mapSeq f) (cN hb)).trans hu) ⟨_,q⟩ ?_;exact⟨hz,its',_,hv,q⟩
theorem Inv.Pg{aA:List Value}{t':Nat}(I:Inv X ae σ H s)(hv:aQ ys aA)(hz:ys.length<=sizeLine):Inv X ae σ (bu H s.heap.objs.size (.lst ys)) {s with heap:=s.heap.push {cls:=.type "list",data:=.seq aA.toArray},toks:=t'} :=
 I.laid (λ_ _ q=>cI _ q) (aE _) ⟨hz,aA,0,hv,gX _ rfl⟩
theorem Inv.fresh(I:Inv X ae σ H s):H s.heap.objs.size=none:=I.bw.fresh (aE _)
theorem Inv.BX(I:Inv X ae σ H s)(hH:H l=some (.lst xs)):xs.length<=sizeLine/\∃(aA:List Value) (n:Nat),aQ xs aA/\xs.length=aA.length/\s.heap.get? l=some {cls:=.type "list",data:=.seq aA.toArray n}:=by
 obtain⟨z,aA,n,r,e⟩:=I.bw l _ hH;exact⟨z,aA,n,r,r.length,e⟩
theorem BY{n:Nat}(h:n<=sizeLine):Builtin.List.listTooLong n=false:=by
 unfold Builtin.List.listTooLong;exact eU ∅
end
section
variable {X:Cx}
def FJ:V->List V->Hp->VK->Prop:=λx vs H Q=>∃l xs y,x=.ref l/\vs=[y]/\H l=some (.lst xs)/\xs.length<sizeLine/\Q .aL (bu H l (.lst (xs++[y])))
theorem pC:YK X "list.append" FJ:=by
 intro ae s σ H x vs v us Q I rx rv h;obtain⟨l,xs,y,rfl,rfl,hH,hz,q⟩:=h;cases rx;obtain⟨u,rfl,ru⟩:=rv.one;obtain⟨z,aA,n,r,hl,e⟩:=I.BX hH;refine call_meets F.slot_list_append ⟨_,e,rfl⟩ F.entry_list_append (F.args_list_append_2 _ _) (PySem.list_append l aA.toArray n u (by rw[df];omega)) ⟨e,?_⟩;refine⟨.aL,_,I.Pf (its':=aA++[u]) hH e (by simp) (r.append (.cons ru .nil)) ?_,rfl,q⟩;rw[dz,List.length_singleton];omega
def Ur:R2:=λx y H Q=>∃l b xs zs,x=.ref l/\y=.ref b/\H l=some (.lst xs)/\H b=some (.lst zs)/\xs.length+zs.length<=sizeLine/\∀p,H p=none->Q (.ref p) (bu H p (.lst (xs++zs)))
theorem Kq:iO X (binaryOp .Add) Ur:=by
 intro ae s σ H x y v u Q I rx ry h;obtain⟨l,b,xs,zs,rfl,rfl,hH,hB,hz,q⟩:=h;cases rx;cases ry;obtain⟨z,aA,n,r,hl,e⟩:=I.BX hH;obtain⟨z2,BP,n2,r2,As,e2⟩:=I.BX hB;refine PySem.P.add_list e e2 ?_ (by rw[df,df];omega);have ea:aA.toArray++BP.toArray=(aA++BP).toArray:=by simp
 rw[ea];exact⟨.ref _,_,I.Pg (t':=s.toks) (r.append r2) (by rw[dz];omega),rfl,q _ I.fresh⟩
def Us:R2:=λx y H Q=>∃l k xs,x=.ref l/\y=.int k/\H l=some (.lst xs)/\-(2 ^ 63)<=k/\k<2 ^ 63/\xs.length*k.toNat<=sizeLine /\
 ∀p,H p=none->Q (.ref p) (bu H p (.lst (List.replicate k.toNat xs).flatten))
theorem FK{α:Type}(xs:List α)(k:Nat):(List.replicate k xs).flatten.length=k*xs.length:=by
 induction k with
 | zero=>simp
 | succ k ih=>rw[yQ,AN,dz,ih,Nat.succ_mul,Nat.add_comm]
theorem Kr:iO X (binaryOp .Mult) Us:=by
 intro ae s σ H x y v u Q I rx ry h;obtain⟨l,k,xs,rfl,rfl,hH,h1,h2,hz,q⟩:=h;cases rx;obtain⟨t,rfl⟩:=ry;obtain⟨z,aA,n,r,hl,e⟩:=I.BX hH;have aJ:aA.toArray.size*k.toNat<=sizeLine:=by rw[df,<- hl];exact hz
 have BZ:¬aA.toArray.size*k.toNat>(2 ^ 63-1) / 8:=by
  have:(sizeLine:Nat)<=(2 ^ 63-1) / 8:=by decide
  omega
 have Ut:¬(!Builtin.List.listFitsIndex k)=true:=by
  rw[fitsIndex_both h1 h2];exact aY
 have Ph:¬Builtin.List.listTooLong (aA.toArray.size*k.toNat)=true:=by
  rw[BY aJ];exact aY
 have kR:List.foldl (λx1 x2=>x1++x2) #[] (List.replicate (if aA.toArray.isEmpty=true then 0 else k.toNat) aA.toArray)=(List.replicate k.toNat aA).flatten.toArray:=by
  have f0:∀m:Nat,List.foldl (λx1 x2=>x1++x2) #[] (List.replicate m aA.toArray)=(List.replicate m aA).flatten.toArray:=λm=>by
   have:=foldl_rep aA m [];rw[List.nil_append]at this;exact this
  rw[f0]
  cases aA with
  | nil=>simp
  | cons a r'=>rw[aP (by simp)]
 refine wpAny_binaryOp_repeat_ref (T := "list") (U := "int") (by decide) ⟨_,e,rfl⟩ (λs'=>typeIs_int s' k t) noFill_list_mul F.fills_int_mul F.slot_int_rmul repeat_list F.slot_int_index.lookup
  (call_meets F.slot_int_rmul (typeIs_int s k t) F.entry_int_rmul (F.args_int_rmul_2 _ _) (int___rmul___int_list k t l aA.toArray n)
   ⟨e,rfl,⟨_,e,rfl⟩,call_meets F.slot_list_mul ⟨_,e,rfl⟩ F.entry_list_mul (F.args_list_mul_2 _ _) (AutoListH.list___mul___list_int_3 l aA.toArray n k t Ut BZ Ph) ⟨e,?_⟩⟩)
 rw[kR];exact⟨.ref _,_,I.Pg (t':=s.toks) (r.rep k.toNat) (by rw[FK,Nat.mul_comm];exact hz),rfl,q _ I.fresh⟩
end
end L2
namespace WH
open PySem PySem.W PySem.Calls PyProof.Rows
theorem lW{P:Params}{h:Heap}:∀(ns:List Int)(vs:List Value),WellAll P h vs (ns.map WData.int)->IntsAre vs ns:=by
 intro ns
 induction ns with
 | nil =>
  intro vs w;rw[lR]at w;cases w;exact .nil
 | cons n ns ih =>
  intro vs w;rw[eJ]at w
  cases w with
  | cons a b =>
   cases a;exact .cons _ _ (ih _ b)
theorem zx{l:OpenLaw}{n:Nat}(hn:l.most=some n){P:Params}{h:Heap}{args:List WData}{vals:List Value}(FL:l.row.toRowW.claim.pre args=true)(B0:WellAll P h vals args):∃a vs ns,vals=[Value.ref a]/\args=[WData.list (ns.map WData.int)]/\h.get? a=some {cls:=.type "list",data:=.seq vs.toArray}/\IntsAre vs ns/\ns.length<=n:=by
 have YL:WShape.hasAll [] args [.list .int]=true:=(pre_splitW FL).1;have hc:l.pre.holds [] {args:=args}=true:=(pre_splitW FL).2;obtain⟨d,r,rfl,h1,h2⟩:=hasAllW_cons YL;obtain rfl:=hasAllW_nil h2;obtain⟨xs,rfl,h3⟩:=hasW_list h1;obtain⟨ns,rfl⟩:=items_int h3
 have aJ:ns.length<=n:=by
  unfold OpenLaw.pre at hc
  have h4:(WTm.not (.lt (.lit (.int (n:Int))) (.len (.arg 0)))).holds [] {args:=[.list (ns.map .int)]}=true:=by
   have h4:=(holds_andW hc).1;rw[hn]at h4;exact h4
  have h5:=condW_of h4 (w_not (w_lt w_lit (w_len_list (w_arg rfl))));rw[aB]at h5;refine Nat.le_of_not_lt λq=>?_;have q':(n:Int)<((ns.length:Nat):Int):=∅
  first
   | (rw[fX q']at h5;exact absurd h5 (by decide))
   | (simp at h5;omega)
 cases B0 with
 | cons w1 w2 =>
  cases w2
  cases w1 with
  | list ho vM=>exact⟨_,_,ns,rfl,rfl,ho,lW ns _ vM,aJ⟩
theorem zy(l:OpenLaw)(args:List WData):l.row.toRowW.claim.post args (.bool true) args=true :=
 postW_of (r:=l.row.toRowW) (X:=(true==true))
  (show WShape.has [] (.bool true) .bool=true by first | rfl | decide | simp[WShape.has,WShape.arms,WShape.armsAll])
  (show(WTm.eq .res (.lit (.bool true))).value [] {args:=args,res:=some (.bool true),after:=args}=some (.bool (true==true)) from w_eq_bool (w_res rfl) w_lit) rfl
theorem tF {l : OpenLaw} {n : Nat} {q : Program} {loose : List Str} {XP : (Str -> Option Value) -> Heap -> Prop} {YP : World -> Heap -> Prop} {d : DefRec}
    (hn:l.most=some n) (Ie:d.params.defaults=[])
    (call:∀(w:World)(dU br:Shared)(mg mb:Str->Option Value)(fa:Addr)(o:Obj)(pm cd doc:Value)(a:Addr)(vs:List Value)(ns:List Int),
      Ground q loose [] XP w dU mg mb br.heap->YP w br.heap ->
      br.heap.get? fa=some o->o.data=.func (docDef d.name d.params d.body d.scope pm cd doc)->br.heap.CodeRec cd d.name->mg d.name=some (.ref fa) ->
      br.heap.get? a=some {cls:=.type "list",data:=.seq vs.toArray}->IntsAre vs ns->ns.length<=n->br.gens=#[] ->
      codeAny (model l.prog w) callerA (.call (.ref fa) ⟨[.ref a],[]⟩) (λr s'=>r=.ok (.ret (.bool true))/\OldK br.heap s'.heap/\s'.os=br.os/\AllBare s'.gens) br) :
    WalkO q loose XP YP l.row.toRowW d [] (λf vs=>PySem.call f vs):=by
  intro w dU br mg mb G Y fa o pm cd doc dV kV ho hd Ap hD Pj hg args vals as FL YM FN B0 vQ;obtain rfl:dV=.none:=Dflts.none hD Ie;obtain rfl:kV=.none:=Dflts.noKw hD;obtain⟨a,vs,ns,rfl,rfl,Ks,hints,aJ⟩:=zx hn FL B0;refine enter_call (Bb (call w dU br mg mb fa o pm cd doc a vs ns G Y ho (fd_plain hd) Ap Pj Ks hints aJ hg) λr s' hq=>?_);obtain⟨rfl,h2,h3,h4⟩:=hq;exact⟨.inl ⟨.bool true,.bool true,[],rfl,λ_=>rfl,.bool true,zy l _,λ_=>⟨List.Pairwise.nil,λ_ hm=>(nomatch hm)⟩⟩,h2,h3,h4⟩
end WH
namespace L2
open PySem PySem.Spec PyProof.Rows
theorem pE:∀{vs:List Value}{ns:List Int},IntsAre vs ns->aQ (ns.map V.int) vs
 | _,_,.nil=>.nil
 | _,_,.cons n t h=>.cons ⟨t,rfl⟩ (pE h)
noncomputable def FO(H:Hp):Prop:=∀b,H b=none\/∃o xs,H b=some (.gW o (.lst xs))
theorem B1{P:Program}{w:World}{K:Frag}{mg mb:Str->Option Value}{CX:zt}{k:Nat}{fa a:Addr}{fd:FuncData}{x:Str}{sp:Sp}{br:Shared}{vs:List Value}{ns:List Int}(KX:K.In br.heap)(kC:br.heap.Ns mainGlobals mg)(hb:br.heap.Ns builtinsNs mb) (Uu:∀x:Str,x≠ "__name__" -> mb x=bootBuiltins x) (Uv:br.heap.NoLimit) (hg:br.gens=#[]) (ha:br.heap.get? a=some {cls:=.type "list",data:=.seq vs.toArray}) (hi:IntsAre vs ns) (hl:ns.length<=sizeLine) (hr:eB k callerA) (F:∀base:Heap,K.In base->base.Ns mainGlobals mg->dQ P w K mg base CX k fa fd [x] sp) (Pk:∀(s:Shared)(u:Value),BindsTo s fd ⟨[u],[]⟩ [(x,u)]) (uZ:∀H:Hp,FO H->fN K H a (ns.map V.int)->sp [.ref a] H (λv _=>v=.bl true) λ_ _ _=>False) (Uw:∀H e s',CX [] H br (λ_ _ _=>False) e s'->False):codeAny (model P w) callerA (.call (.ref fa) ⟨[.ref a],[]⟩) (λr s'=>r=.ok (.ret (.bool true))/\OldK br.heap s'.heap/\s'.os=br.os/\AllBare s'.gens) br:=by
  have rv:=pE hi;have Ux:=hi.length
  have core : ∀ H : Hp, FO H -> fN K H a (ns.map V.int) -> iJ P w H br.heap -> (∀ b, H b ≠ none -> b = a) -> (H a ≠ none -> K.lookup a = none) ->
      codeAny (model P w) callerA (.call (.ref fa) ⟨[.ref a],[]⟩) (λr s'=>r=.ok (.ret (.bool true))/\OldK br.heap s'.heap/\s'.os=br.os/\AllBare s'.gens) br:=by
    intro H hO hS bw hA hK;have l5:∀{b:Addr}{o:Obj},br.heap.get? b=some o->H b=none->(qo br.heap H).get? b=some o:=λe n=>Bh e n
    have O5:∀{b:Addr}{o:Obj}{es:Array DictEntry}{ep:Nat},br.heap.get? b=some o->o.data=.dict es ep->H b=none:=λ{b o es ep} e d=>by
      cases q:H b with
      | none=>rfl
      | some u =>
        have e':b=a:=hA b (by rw[q];simp);subst e';rw[ha]at e;cases e;have d':Data.seq vs.toArray _=Data.dict es ep:=d;cases d'
    have R9:∀{b:Addr}{m:Str->Option Value},br.heap.Ns b m->(qo br.heap H).Ns b m:=λ{b m} ⟨o,es,ep,e,d,r⟩=>⟨o,es,ep,l5 e (O5 e d),d,r⟩
    have WI:K.In (qo br.heap H):=λb o e=>l5 (KX b o e) (by
      cases q:H b with
      | none=>rfl
      | some u =>
        have e':b=a:=hA b (by rw[q];simp);subst e';rw[hK (by rw[q];simp)]at e;cases e)
    have hM:Mod K mg (qo br.heap H):=⟨WI,R9 kC,⟨mb,R9 hb,Uu⟩,let ⟨mc,h1,h2⟩:=Uv;⟨mc,R9 h1,h2⟩⟩;have e0:oQ P w K mg (qo br.heap H) callerA [] br H:=⟨rfl,hM,λb o e=>E3 e,vB (y8 _ _),trivial,λb hb=>absurd (show b∈([]:List Addr) from hb) (by simp),bw,.of_eq hg⟩;refine Bb ((F _ WI (R9 kC)).run callerA [] br H ⟨[.ref a],[]⟩ [.ref a] [.ref a] _ _ hr e0 (Pk br (.ref a)) (.cons rfl .nil) (uZ H hO hS)) λr s' h=>?_
    cases r with
    | error e=>exact(Uw H e s' h).elim
    | ok fl =>
      cases fl with
      | next=>exact False.elim h
      | brk=>exact False.elim h
      | cont=>exact False.elim h
      | ret u =>
        obtain⟨v,H',os,bare,un,Uy,r',q⟩:=h;have q':v=.bl true:=q;subst q';obtain rfl:u=Value.bool true:=r';refine⟨rfl,OldK.of_keep λb o e=>?_,os,bare⟩
        cases q:H b with
        | none=>exact un.keep b o e q (by intro z;exact absurd (show b∈([]:List Addr) from z) (by simp)) (by simp)
        | some u =>
          rcases hO b with z | ⟨ob,xs,z⟩
          · rw[q]at z;cases z
          · have z2:=un.jG b ob _ z;obtain⟨e1,_⟩:=bw b _ z;obtain⟨e2,_⟩:=Uy b _ z2;rw[e]at e1;cases e1;exact e2
  cases hk:K.lookup a with
  | some o =>
    have e:=KX a o hk;rw[ha]at e;cases e;refine core (λ_=>none) (λ_=>.inl rfl) (.inr ⟨_,vs.toArray,_,hk,rfl,rfl,rfl,by rw[df,Ux];exact hl,by simpa using rv⟩) (λb u z=>by have z':(none:Option HO)=some u:=z;cases z') (λb z=>absurd rfl z) λz=>absurd rfl z
  | none =>
    refine core (λb=>if b=a then some (.gW {cls:=.type "list",data:=.seq vs.toArray} (.lst (ns.map V.int))) else none) (λb=>?_) (.inl (.inr ⟨{cls:=.type "list",data:=.seq vs.toArray},aF rfl⟩)) (λb u z=>?_) (λb z=>?_) λ_=>hk
    · by_cases hb:b=a
      · exact .inr ⟨_,_,aF hb⟩
      · exact .inl (aP hb)
    · by_cases hb:b=a
      · have z':=(aF hb).symm.trans z;cases z';subst hb;exact⟨ha,by rw[aB];exact hl,vs,_,rv,ha⟩
      · have z':=(aP hb).symm.trans z;cases z'
    · by_cases hb:b=a
      · exact hb
      · exact absurd (aP hb) z
theorem FP {l : PySem.W.OpenLaw} {n k : Nat} {q : Program} {loose : List Str} {XP : (Str -> Option Value) -> Heap -> Prop} {YP : World -> Heap -> Prop} {d : DefRec} {K : Params -> Frag} {CX : World -> zt} {sp : World -> Sp} {x : Str}
    (hn:l.most=some n) (je:n<=sizeLine) (Ie:d.params.defaults=[]) (hr:eB k callerA)
    (hY:∀(w:World)(h:Heap),YP w h->(K w.params).In h)
    (F:∀(w:World)(mg:Str->Option Value)(fa:Addr)(h:Heap),(K w.params).In h->h.Ns mainGlobals mg->mg d.name=some (.ref fa) ->
      ∃fd:FuncData,(∀(s:Shared)(u:Value),BindsTo s fd ⟨[u],[]⟩ [(x,u)]) /\
        ∀base:Heap,(K w.params).In base->base.Ns mainGlobals mg->dQ l.prog w (K w.params) mg base (CX w) k fa fd [x] (sp w))
    (uZ:∀(w:World)(H:Hp)(a:Addr)(ns:List Int),ns.length<=n->FO H->fN (K w.params) H a (ns.map V.int)->sp w [.ref a] H (λv _=>v=.bl true) λ_ _ _=>False)
    (Uw:∀(w:World)(H:Hp)(s:Shared)(e:Value)(s':Shared),CX w [] H s (λ_ _ _=>False) e s'->False) :
    PySem.W.WalkO q loose XP YP l.row.toRowW d [] (λf vs=>PySem.call f vs):=by
  refine WH.tF hn Ie λw dU br mg mb fa o pm cd doc a vs ns G Y ho hd Ap Pj Ks hints aJ hg=>?_;have KX:=hY w _ Y;obtain⟨fd,hb,hF⟩:=F w mg fa _ KX G.T.g Pj;exact B1 KX G.T.g G.T.b G.T.builtins G.T.nolimit hg Ks hints (bJ aJ je) hr hF hb (λH hO hS=>uZ w H a ns aJ hO hS) λH e s'=>Uw w H br e s'
abbrev Ig:zt:=λ_ _ _ _ _ _=>False
abbrev E0:XK:=λ_ _ _=>False
structure NG (K:Frag) (x qual:Str) (st:Stmt) (f:Addr) (fd:FuncData):Prop where
 ex:∃(oc:Value) (od:Option Addr) (kV doc pm:Value) (an:Option Addr) (lU ct:Value) (Ei:Array (Option Value)),
  fd=PySem.W.fnOf x qual (fB st) (cv st) (aI st) .none kV doc pm an lU ct/\K.lookup f=some ⟨oc,od,.func fd,Ei⟩/\PySem.W.codeIn K lU qual=true
 kp:PySem.W.keepIn K (.ref f)=true
section
variable {P:Program} {w:World} {K:Frag} {mg:Str->Option Value} {base:Heap}
theorem NG.ok {x qual : Str} {st : Stmt} {f : Addr} {fd : FuncData} {N ps : List Str} {k : Nat} {sp : Sp} (F : NG K x qual st f fd) (S : gA N ps (aI st)) (len : ∀ vs H Q E, sp vs H Q E -> vs.length = ps.length)
    (BG:∀(lU:Value)(A:Around)(outer:List Env)(s:Shared)(H:Hp)(vs:List V)(Q:VK)(E:XK),eB k (A.deeper (envOfC qual (aI st) s.heap.objs.size f lU))->sp vs H Q E ->
      ∃t,pe (qE Ig P w K mg base N qual (aI st) f lU A outer s H E).Aq (cv st) t/\t {nx:=λ_ H'=>Q .aL H',rt:=Q} (start N vs) H):dQ P w K mg base Ig (k+1) f fd ps sp:=by
  obtain⟨oc,od,kV,doc,pm,an,lU,ct,Ei,rfl,lk,Ap⟩:=F.ex;refine BF lk Ap S len λA outer s H vs Q E hr uZ=>?_;obtain⟨t,h,q⟩:=BG lU A outer s H vs Q E hr uZ;exact⟨t,h.Aq,q⟩
theorem qM{x qual:Str}{st:Stmt}{f:Addr}{oc:Value}{od an:Option Addr}{Ei:Array (Option Value)}{kV doc pm lU ct:Value}(l:K.lookup f=some ⟨oc,od,.func (PySem.W.fnOf x qual (fB st) (cv st) (aI st) .none kV doc pm an lU ct),Ei⟩)(c:PySem.W.codeIn K lU qual=true)(k:PySem.W.keepIn K (.ref f)=true):NG K x qual st f (PySem.W.fnOf x qual (fB st) (cv st) (aI st) .none kV doc pm an lU ct):=⟨⟨oc,od,kV,doc,pm,an,lU,ct,Ei,rfl,l,c⟩,k⟩
end
end L2
end
section
namespace L2
open PySem PySem.Spec PyProof.Rows
section
variable {prog:Program} {w:World} {A:Around} {R:Result->Shared->Prop} {s:Shared}
theorem qN {elt kM aK : Expr} {ifs : List Expr} {scope : Scope} {pos : Pos} {it acc : Value} {env : Env} (I : Nat -> Shared -> Prop)
    (Bw:∀n s,I n s->wpAny (model prog w) A (pyNext it) (λr br=>match r with
      | none=>R (.ok .next) br
      | some v => wpAny (model prog w) A (letOwnedTupleGo kM it v) (fun _ Ih => wpAny (model prog w) A (assign kM env v) (fun _ zf =>
          wpAny (model prog w) A (forIn ifs true λc r=>if r=true then do let ok <- isTrue c env (eval c env);pure (ForInStep.yield ok) else pure (ForInStep.yield r)) (λok B2 =>
            if ok=true then wpAny (model prog w) A (eval elt env) (λx zz =>
              wpAny (model prog w) A (call (.builtin "list.append") [acc,x]) (λ_ B3=>∃m,m<n/\I m B3) (λ_ _=>False) zz) (λ_ _=>False) B2
            else ∃m,m<n/\I m B2) (λ_ _=>False) zf) (λ_ _=>False) Ih) (λ_ _=>False) br) (λ_ _=>False) s)
    (n:Nat) (h:I n s):codeAny (model prog w) A (.compLoop (.ListComp elt [⟨kM,aK,ifs,0⟩] scope pos) 0 it acc env) R s:=by
  refine codeAny_loop rfl I (λn s hI=>?_) n h;show wpAny _ A ((compTurn (.ListComp elt [⟨kM,aK,ifs,0⟩] scope pos) 0 it acc env).onRaise (λx=>do noteFrame x env;theTreesLotGoes x)) _ _ s;refine wpAny_noted ?_;rw[compTurn_list];refine aj (y3 (aj (jb (Bw n s hI) (λr br FQ=>?_) λ_ _ h'=>h'.elim)))
  cases r with
  | none=>exact aO FQ
  | some v =>
    refine aj (jb FQ (λ_ Ih Pl=>?_) λ_ _ h'=>h'.elim);refine aj (jb Pl (λ_ zf Uz=>aj (jb Uz (λok B2 Pm=>?_) λ_ _ h'=>h'.elim)) λ_ _ h'=>h'.elim)
    cases ok with
    | false=>exact aO ⟨rfl,Pm⟩
    | true =>
      exact aj (aj (jb Pm (λx zz UA=>aj (jb UA (λ_ B3 UB=>aO (aO ⟨rfl,UB⟩)) λ_ _ h'=>h'.elim)) λ_ _ h'=>h'.elim))
end
theorem cJ{x:Str}:∀(names:List (Str×NameKind))(n:Nat)(acc:List (Str×Addr)),(x,NameKind.cell)∉names->(cellsFrom n names acc).lookup x=acc.lookup x
 | [],_,_,_=>rfl
 | (y,k)::r,n,acc,h=>by
  unfold cellsFrom;split
  ·rename_i hk
   have hk:k=.cell:=eq_of_beq hk;subst hk;rw[cJ r (n+1) _ (λz=>h (dP _ z)),e_];have:(x==y)=false:=oJ.mpr λz=>h (by subst z;exact ez);rw[this]
  ·exact cJ r n acc λz=>h (dP _ z)
theorem fQ{x:Str}{c:Addr}:∀(names:List (Str×NameKind))(n:Nat)(acc:List (Str×Addr)),(x,NameKind.cell)∈names->(cellsFrom n names acc).lookup x=some c->n<=c
 | [],_,_,h,_=>by cases h
 | (y,k)::r,n,acc,h,e=>by
  unfold cellsFrom at e;split at e
  ·by_cases hr:(x,NameKind.cell)∈r
   ·exact AO (fQ r (n+1) _ hr e)
   ·rw[cJ r (n+1) _ hr,e_]at e
    have:x=y:=by
     rcases bT.mp h with z | z
     ·exact(Prod.mk.inj z).1
     ·exact absurd z hr
    subst this;simp at e;exact vB e
  ·rename_i hk
   rcases bT.mp h with z | z
   ·exact absurd (by rw[<- (Prod.mk.inj z).2];rfl) hk
   ·exact fQ r n acc z e
theorem fR{x:Str}:∀(names:List (Str×NameKind))(n:Nat)(acc:List (Str×Addr)),(x,NameKind.cell)∈names->∃c,(cellsFrom n names acc).lookup x=some c
 | [],_,_,h=>by cases h
 | (y,k)::r,n,acc,h=>by
  unfold cellsFrom;split
  ·by_cases hr:(x,NameKind.cell)∈r
   ·exact fR r (n+1) _ hr
   ·rw[cJ r (n+1) _ hr,e_]
    have:x=y:=by
     rcases bT.mp h with z | z
     ·exact(Prod.mk.inj z).1
     ·exact absurd z hr
    subst this;simp
  ·rename_i hk
   rcases bT.mp h with z | z
   ·exact absurd (by rw[<- (Prod.mk.inj z).2];rfl) hk
   ·exact fR r n acc z
theorem fS:∀(names:List (Str×NameKind))(n:Nat)(acc:List (Str×Addr)),(∀x c,acc.lookup x=some c->c<n)->(∀x y c,acc.lookup x=some c->acc.lookup y=some c->x=y)->∀x y c,(cellsFrom n names acc).lookup x=some c->(cellsFrom n names acc).lookup y=some c->x=y
 | [],_,_,_,h=>h
 | (z,k)::r,n,acc,hb,h=>by
  unfold cellsFrom;split
  ·refine fS r (n+1) _ (λx c e=>?_) (λx y c e1 e2=>?_)
   ·rw[e_]at e;split at e
    ·cases e;exact EW _
    ·exact Nat.lt_succ_of_lt (hb x c e)
   ·rw[e_]at e1 e2;split at e1
    ·rename_i hx
     cases e1;split at e2
     ·rename_i hy
      rw[eq_of_beq hx,eq_of_beq hy]
     ·exact absurd (hb y _ e2) (jF _)
    ·split at e2
     ·cases e2;exact absurd (hb x _ e1) (jF _)
     ·exact h x y c e1 e2
  ·exact fS r n acc hb h
theorem fg{x:Str}{c:Addr}:∀(names:List (Str×NameKind))(h:Heap)(acc:List (Str×Addr)),(cellsFrom h.objs.size names acc).lookup x=some c->acc.lookup x=some c\/(h.objs.size<=c/\(pushCells h names).IsCell c none)
 | [],_,_,e=>.inl e
 | (z,k)::r,h,acc,e=>by
  unfold cellsFrom at e;unfold pushCells;split at e
  ·rename_i hk
   rw[aF hk];have e':(cellsFrom (h.push {cls:=.type "cell",data:=.cell none}).objs.size r ((z,h.objs.size)::acc)).lookup x=some c:=by rw[sR];exact e
   rcases fg r (h.push {cls:=.type "cell",data:=.cell none}) _ e' with q | ⟨q1,q2⟩
   ·rw[e_]at q;split at q
    ·cases q;exact .inr ⟨aE _,_,pushCells_keeps _ _ _ _ (gX _ rfl),rfl⟩
    ·exact .inl q
   ·rw[sR]at q1;exact .inr ⟨AO q1,q2⟩
  ·rename_i hk
   rw[aP hk];exact fg r h acc e
theorem qO {M : Model} {A : Around} {E : Value -> Shared -> Prop} {s : Shared} {scope : Scope} {globals : Addr} {cl : List (Str × Addr)} {qual : Str} {outer : Env} {Q : Env -> Shared -> Prop}
    (hQ:Q {scope:=scope,locals:=s.heap.objs.size,globals:=globals,cells:=cellsFrom (s.heap.objs.size+1) scope.names cl,qual:=qual,func:=none,code:=outer.code,frame:=outer.frame,builtins:=outer.builtins}
      {s with heap:=pushCells (s.heap.push {cls:=.type "dict",data:=.dict #[]}) scope.names}) :
    wpAny M A (newFunctionEnv scope globals cl [] qual none .none (some outer)) Q E s:=by
  simp only[newFunctionEnv,Option.isSome_some,dA];refine aj (wpAny_alloc ?_);refine aj (wpAny_layCells _ (λname kind cells=>by cases YN:kind==NameKind.cell<;>simp[YN]) _ _ _ _ ?_);rw[show({s with heap:=s.heap.push {cls:=.type "dict",data:=.dict #[]}}:Shared).heap.objs.size=s.heap.objs.size+1 from sR ..];rw[List.forIn_nil];exact aj (aO (aO hQ))
noncomputable def Cx.block(X:Cx)(scope:Scope)(cl:List (Str×Addr))(C:Addr)(N':List Str)(s:Shared)(H:Hp)(fp:List Addr)(pn:List (Addr×Obj)):Cx :=
 {X with N:=N',dU:=s,mM:=H,env:=compEnvC scope (cellsFrom (C+1) scope.names cl) C X.env,outer:=X.stack,ex:=fp,fn:=λx=>scope.names.lookup x==some .cell,pn:=pn,xe:=λ_ _=>False}
structure Kt (X:Cx) (scope:Scope) (cl:List (Str×Addr)):Prop where
 is:closureFor scope X.env=pure cl
 sub:∀x c,cl.lookup x=some c->X.env.cells.lookup x=some c
 has:∀x,scope.names.lookup x=some .free->∃c,cl.lookup x=some c
theorem dX {env : Env} : ∀ {names : List (Str × NameKind)} {x : Str} {k : NameKind}, names.lookup x = some k ->
    (names.map λ(n,k)=>if (k==NameKind.free&&env.scope.kind == .function&&env.kindOf n==some .cell) then (n,NameKind.cell) else (n,k)).lookup x =
      some (if (k==NameKind.free&&env.scope.kind == .function&&env.kindOf x==some .cell) then .cell else k)
  | [],_,_,h=>by simp at h
  | (n,k')::r,x,k,h=>by
    have ih:=@dX env r x k;show List.lookup x ((if (k'==NameKind.free&&env.scope.kind == .function&&env.kindOf n==some .cell)=true then (n,NameKind.cell) else (n,k'))::_)=_
    cases hx:x==n with
    | true =>
      simp only[e_,hx]at h;cases h;have e:x=n:=by simpa using hx
      subst e;split<;>simp[e_]
    | false =>
      simp only[e_,hx]at h;by_cases hc:(k'==NameKind.free&&env.scope.kind == .function&&env.kindOf n==some .cell)=true
      · rw[aF hc];simp only[e_,hx];exact ih h
      · rw[aP hc];simp only[e_,hx];exact ih h
theorem jf {env : Env} : ∀ {names : List (Str × NameKind)} {x : Str} {k : NameKind},
    (names.map λ(n,k)=>if (k==NameKind.free&&env.scope.kind == .function&&env.kindOf n==some .cell) then (n,NameKind.cell) else (n,k)).lookup x=some k ->
      ∃k',names.lookup x=some k'/\k=(if (k'==NameKind.free&&env.scope.kind == .function&&env.kindOf x==some .cell) then .cell else k')
  | names,x,k,h=>by
    cases q:names.lookup x with
    | some k' =>
      have:=dX (env:=env) q;rw[this]at h;exact⟨k',rfl,(cR h).symm⟩
    | none =>
      exfalso
      induction names with
      | nil=>simp at h
      | cons a r ih =>
        obtain⟨n,k'⟩:=a
        cases hx:x==n with
        | true=>simp[e_,hx]at q
        | false =>
          simp only[e_,hx]at q;have h':List.lookup x ((if (k'==NameKind.free&&env.scope.kind == .function&&env.kindOf n==some .cell)=true then (n,NameKind.cell) else (n,k'))::(r.map λ(n,k)=>if (k==NameKind.free&&env.scope.kind == .function&&env.kindOf n==some .cell) then (n,NameKind.cell) else (n,k)))=some k:=h;by_cases hc:(k'==NameKind.free&&env.scope.kind == .function&&env.kindOf n==some .cell)=true
          · rw[aF hc]at h';simp only[e_,hx]at h';exact ih h' q
          · rw[aP hc]at h';simp only[e_,hx]at h';exact ih h' q
noncomputable def jQ(cO:List (Option Nat))(σ:St):St:=cO.map λo=>o.bind λj=>(σ[j]?).join
structure B4 (X:Cx) (scope:Scope) (N':List Str) (cO:List (Option Nat)):Prop where
 len:cO.length=N'.length
 out:∀(i j:Nat)(x:Str),cO[i]?=some (some j)->N'[i]?=some x->X.N[j]?=some x/\scope.names.lookup x=some .free/\(X.env.kindOf x=some .cell\/X.env.kindOf x=some .free)
section
variable {X:Cx} {ae:List (Addr×Obj)} {σ:St} {H:Hp} {s:Shared} {scope:Scope} {cl:List (Str×Addr)} {N':List Str} {cO:List (Option Nat)} {fp:List Addr}
theorem tH{h1:Heap}(I:Inv X ae σ H s)(BH:scope.kind=.function)(xy:∀y∈scope.names,y.2=.cell->scope.names.lookup y.1=some .cell)(cs:Kt X scope cl)(co:B4 X scope N' cO)(hf:∀b∈fp,lS X ae H b)(ho:∀b∈fp,b<s.heap.objs.size)(kC:h1.Ns s.heap.objs.size (λ_=>none))(hk:∀b u,s.heap.get? b=some u->h1.get? b=some u)(kR:∀x c,(cellsFrom (s.heap.objs.size+1) scope.names cl).lookup x=some c->cl.lookup x=some c\/(s.heap.objs.size+1<=c/\h1.IsCell c none))(tk:Nat):Inv (X.block scope cl s.heap.objs.size N' s H fp []) [] (jQ cO σ) H {s with heap:=h1,toks:=tk}:=by
 have I1:Inv X ae σ H {s with heap:=h1,toks:=tk}:=I.kept hk
 have HP:∀x c,cl.lookup x=some c->c<s.heap.objs.size:=λx c e=>by
  obtain⟨v,q⟩:=I.cell x c (cs.sub x c e);exact q.lt
 have fr:H s.heap.objs.size=none:=I.bw.fresh (aE _)
 have same:∀x,scope.names.lookup x=some .free->(cellsFrom (s.heap.objs.size+1) scope.names cl).lookup x=cl.lookup x:=λx hx =>
  cJ _ _ _ λz=>by have:=xy _ z rfl;rw[hx]at this;cases this
 refine⟨⟨I.ok.mod,BH,I.ok.glob,I.ok.blt,aE _,fS _ _ _ (λx c e=>Nat.lt_succ_of_lt (HP x c e)) (λx y c a b=>I.ok.inj x y c (cs.sub _ _ a) (cs.sub _ _ b)),λx hx=>?_,λx c z e=>?_,I.ok.hd,I.ok.frames,.inl rfl,λb hb=>⟨?_,λx c e=>?_⟩,λb o e=>I.bs b o e,
  bJ I.ok.An I.sz,λb o e hb=>?_,λb hb sy=>?_,I.stack,I.qr⟩,rfl,I.bare,Un.kept hk,⟨_,kC,λi x v e1 e2 e3=>?_⟩,λx c e=>?_,fr,λx c e=>?_,λp hp=>?_,I.bw.kept hk,?_⟩
 ·have hx:(relabel scope X.env).names.lookup x=some .cell\/(relabel scope X.env).names.lookup x=some .free:=hx
  have pF:∃k',scope.names.lookup x=some k'/\(k'=.free\/k'=.cell):=by
   have go:∀k,(k=.cell\/k=.free)->(relabel scope X.env).names.lookup x=some k->∃k',scope.names.lookup x=some k'/\(k'=.free\/k'=.cell):=by
    intro k hk hx;obtain⟨k',e,ek⟩:=jf hx;refine⟨k',e,?_⟩;by_cases z:k'=.free
    ·exact .inl z
    ·rw[aP (by cases k'<;>first | exact absurd rfl z | simp)]at ek;subst ek;rcases hk with hk | hk
     ·exact .inr hk
     ·exact .inl hk
   rcases hx with hx | hx
   ·exact go _ (.inl rfl) hx
   ·exact go _ (.inr rfl) hx
  obtain⟨k',e,FR⟩:=pF;show ∃c,(cellsFrom (s.heap.objs.size+1) scope.names cl).lookup x=some c;rcases FR with z | z
  ·subst z;rw[same x e];exact cs.has x e
  ·subst z;exact fR _ _ _ (mI e)
 ·have z:(scope.names.lookup x==some .cell)=true:=z;have z:scope.names.lookup x=some .cell:=eq_of_beq z;exact AO (fQ _ _ _ (mI z) e)
 ·exact eK (ho b hb)
 ·rcases kR x c e with q | ⟨q,_⟩
  ·exact(hf b hb).2.2.2.2.1 x c (cs.sub x c q)
  ·have R_:=ho b hb;intro z;rw[z]at q;exact absurd R_ (Nat.not_lt_of_le (AO q))
 ·rcases(hf b hb).2.2.2.1 with z | z
  ·exact I.ok.y_ b o e z
  ·have h1:=bP e;have h2:=I.ok.An;exact absurd (fH h1 (bJ h2 z)) (jF _)
 ·rcases bT.mp (I.qq b sy)with z | z
  ·exact(hf b hb).2.1 z
  ·exact(hf b hb).2.2.1 z
 ·have e1:N'[i]?=some x:=e1;unfold jQ at e2;rw[c_]at e2
  cases q:cO[i]? with
  | none=>rw[q]at e2;cases e2
  | some oj =>
   rw[q]at e2
   cases oj with
   | none=>cases e2
   | some j =>
    have Pn:(σ[j]?).join=some v:=cR e2
    have UC:σ[j]?=some (some v):=by
     cases r:σ[j]? with
     | none=>rw[r]at Pn;cases Pn
     | some ov=>rw[r]at Pn;cases ov with
      | none=>cases Pn
      | some z=>cases Pn;rfl
    obtain⟨o1,o2,o3⟩:=co.out i j x q e1;obtain⟨m,hn,hl⟩:=I1.loc;obtain⟨u,r,l⟩:=hl j x v o1 UC (o3.elim (λz=>.inr (.inl z)) λz=>.inr (.inr z));refine⟨u,r,.inr ⟨?_,?_⟩⟩
    ·show(relabel scope X.env).names.lookup x=some .cell\/(relabel scope X.env).names.lookup x=some .free;rw[show(relabel scope X.env).names.lookup x=_ from dX o2];split
     ·exact .inl rfl
     ·exact .inr rfl
    ·obtain⟨c,hc⟩:=cs.has x o2;have ze:=cs.sub x c hc;rcases l with⟨FR,hm⟩|⟨_,c2,tw,Ku⟩
     ·exfalso;rw[FR]at o3;rcases o3 with o3 | o3<;>cases o3
     ·rw[ze]at tw;cases tw;exact⟨c,(same x o2).trans hc,Ku⟩
 ·rcases kR x c e with q | ⟨_,q⟩
  ·exact I1.cell x c (cs.sub x c q)
  ·exact⟨none,q⟩
 ·rcases kR x c e with q | ⟨q,_⟩
  ·exact I1.fY x c (cs.sub x c q)
  ·exact I.bw.fresh (AO q)
 ·exact absurd (show p∈([]:List (Addr×Obj)) from hp) (by simp)
 ·show(jQ cO σ).length=N'.length;unfold jQ;rw[aB];exact co.len
end
noncomputable def UD:Option TT->TT
 | none=>λ_ H Q=>Q true H
 | some t=>t
def vR(cO:List (Option Nat))(g:TG)(tc:Option TT)(te:TE)(σ:St)(J:It)(H1:Hp)(Q:V->Hp->Prop):Prop :=
 ∀D,H1 D=none->∃W:Nat->Nat->St->Hp->List V->Prop,(∃m,W 0 m (jQ cO σ) (bu H1 D (.lst [])) []) /\
  ∀i m τ H ys,W i m τ H ys->H D=some (.lst ys)/\((J.stop i H/\Q (.ref D) H) \/
   (J.go i H/\ys.length<sizeLine/\∀x H',J.NB i H x H'->g x τ H' λEj H2=>UD tc Ej H2 λb H3 =>
    if b=true then te Ej H3 λv H4=>H4 D=some (.lst ys)/\∃m',m'<m/\W (i+1) m' Ej (bu H4 D (.lst (ys++[v]))) (ys++[v])
    else ∃m',m'<m/\W (i+1) m' Ej H3 ys))
def xM(cO:List (Option Nat))(wi:TI)(g:TG)(tc:Option TT)(te:TE):TE:=λσ H Q=>wi σ H λJ H1=>vR cO g tc te σ J H1 Q
def Po(X:Cx)(scope:Scope)(N':List Str)(cl:List (Str×Addr))(ifs:List Expr):Option TT->Prop
 | none=>ifs=[]
 | some t=>∃c,ifs=[c]/\∀C s H fp,PT (X.block scope cl C N' s H fp []) c t
structure kS (X:Cx) (scope:Scope) (N':List Str) (cO:List (Option Nat)) (cl:List (Str×Addr)) (tg elt:Expr) (ifs:List Expr) (g:TG) (tc:Option TT) (te:TE):Prop where
 kind:scope.kind=.function
 Kv:∀y∈scope.names,y.2=.cell->scope.names.lookup y.1=some .cell
 names:∀y∈scope.names,y.2=.local->scope.names.lookup y.1=some .local
 Kw:Kt X scope cl
 UE:B4 X scope N' cO
 tg:∀C s H fp,PG (X.block scope cl C N' s H fp []) tg g
 ifs:Po X scope N' cl ifs tc
 elt:∀C s H fp,PE (X.block scope cl C N' s H fp []) elt te
section
variable {X:Cx} {scope:Scope} {N':List Str} {cO:List (Option Nat)} {cl:List (Str×Addr)} {tg elt aK:Expr} {ifs:List Expr} {g:TG} {tc:Option TT} {te:TE} {pos:Pos}
theorem tJ {ae : List (Addr × Obj)} {s2 : Shared} {σ : St} {H2 : Hp} {it : Addr} {fp : List Addr} {tn : Nat -> Heap -> Prop} {J : It} {E : Value -> Shared -> Prop} {Q : V -> Hp -> Prop} {RR : Value -> Addr -> Result -> Shared -> Prop}
    (hc:X.calm=true) (ck:kS X scope N' cO cl tg elt ifs g tc te) (I2:Inv X ae σ H2 s2) (T:zh X.prog X.w X.K tg J fp it tn) (Ff:tn 0 s2.heap) (f2:∀b∈fp,lS X ae H2 b) (h:vR cO g tc te σ J H2 Q)
    (YO:∀(D C:Addr)(H':Hp)(s':Shared)(m:Str->Option Value),Inv X ae σ H' s'->s'.heap.Ns C m->H' C=none->X.dU.heap.objs.size<=C->C≠X.env.locals->C∉X.fs->(∀x c,X.env.cells.lookup x=some c->c≠C)->(∀p∈X.pn++ae,p.1≠C)->Q (.ref D) H'->RR (.ref D) C (.ok .next) s') :
    wpAny (model X.prog X.w) X.A (newList []) (λacc B2=>wpAny (model X.prog X.w) X.A (newFunctionEnv scope X.env.globals cl [] X.env.qual none .none (some X.env)) (λPp zz =>
      codeAny (model X.prog X.w) X.A (.compStart (.ListComp elt [⟨tg,aK,ifs,0⟩] scope pos) 0 (.ref it) acc {Pp with scope:=relabel scope X.env}) (RR acc Pp.locals) zz) E B2) E s2:=by
  refine lP ?_;generalize hH:s2.heap.push {cls:=.type "list",dict:=none,data:=.seq ([]:List Value).toArray}=hh;have hD:H2 s2.heap.objs.size=none:=I2.bw.fresh (aE _);have k3:∀b u,s2.heap.get? b=some u->hh.get? b=some u:=λb u e=>by rw[<- hH];exact cI _ e
  have I3:Inv X ae σ (bu H2 s2.heap.objs.size (.lst [])) {s2 with heap:=hh} :=
    I2.laid (t':=s2.toks) k3 (aE _) ⟨mL _,[],0,.nil,by rw[<- hH];exact gX _ rfl⟩
  have f3:∀b∈fp,lS X ae (bu H2 s2.heap.objs.size (.lst [])) b:=λb hb=>by
    obtain⟨o,e,_⟩:=T.obj _ _ Ff b hb;exact⟨by rw[aq (eK (bP e))];exact(f2 b hb).1,(f2 b hb).2⟩
  have b3:∀b∈fp,b<hh.objs.size:=λb hb=>by
    obtain⟨o,e,_⟩:=T.obj _ _ Ff b hb;exact bP (k3 b o e)
  have R3:tn 0 hh:=T.keep _ _ _ Ff λb hb o e=>k3 b o e;obtain⟨W,⟨m0,w0⟩,Bw⟩:=h s2.heap.objs.size hD;refine qO (s:={s2 with heap:=hh}) ?_;have k4:∀b u,hh.get? b=some u->(pushCells (hh.push {cls:=.type "dict",data:=.dict #[]}) scope.names).get? b=some u:=λb u e=>pushCells_keeps _ _ b u (cI _ e);have Pq:(pushCells (hh.push {cls:=.type "dict",data:=.dict #[]}) scope.names).Ns hh.objs.size (λ_=>none):=(Heap.Ns.new hh (.type "dict")).keeps (pushCells_keeps _ _)
  have kR:∀x c,(cellsFrom (hh.objs.size+1) scope.names cl).lookup x=some c->cl.lookup x=some c\/(hh.objs.size+1<=c/\(pushCells (hh.push {cls:=.type "dict",data:=.dict #[]}) scope.names).IsCell c none):=λx c e=>by
    have:=fg (x:=x) (c:=c) scope.names (hh.push {cls:=.type "dict",data:=.dict #[]}) cl (by rw[sR];exact e);rw[sR]at this;exact this
  generalize hh1:pushCells (hh.push {cls:=.type "dict",data:=.dict #[]}) scope.names=FQ at k4 Pq kR;have Sa:tn 0 FQ:=T.keep _ _ _ R3 λb hb o e=>k4 b o e;have I4:=tH (tk:=s2.toks) I3 ck.kind ck.Kv ck.Kw ck.UE f3 b3 Pq k4 kR;generalize hX:X.block scope cl hh.objs.size N' {s2 with heap:=hh} (bu H2 s2.heap.objs.size (.lst [])) fp []=X' at I4;have pG:X'.prog=X.prog:=by rw[<- hX];rfl
  have xw:X'.w=X.w:=by rw[<- hX];rfl
  have xK:X'.K=X.K:=by rw[<- hX];rfl
  have xA:X'.A=X.A:=by rw[<- hX];rfl
  have xc:X'.calm=true:=by rw[<- hX];exact hc
  have FT:X'.env=compEnvC scope (cellsFrom (hh.objs.size+1) scope.names cl) hh.objs.size X.env:=by rw[<- hX];rfl
  have Sb:X'.xe=λ_ _=>False:=by rw[<- hX];rfl
  have UG:∀{H':Hp},(∀b∈fp,H' b=none)->∀b∈fp,lS X' [] H' b:=λ{H'} hn b hb=>by
    have z:=I4.ok.RX b (by rw[<- hX];exact hb);exact⟨hn b hb,z.1,I4.ok.zc b (by rw[<- hX];exact hb),.inl (by rw[<- hX];exact hb),z.2,λp hp=>absurd (show p∈([]:List (Addr×Obj)) by rw[<- hX]at hp;exact hp) (by simp)⟩
  have WJ:=ck.tg hh.objs.size {s2 with heap:=hh} (bu H2 s2.heap.objs.size (.lst [])) fp;have Pr:=ck.ifs;have Pt:=ck.elt hh.objs.size {s2 with heap:=hh} (bu H2 s2.heap.objs.size (.lst [])) fp;rw[hX]at WJ Pt
  have loop : ∀ s4 : Shared, Inv X' [] (jQ cO σ) (bu H2 s2.heap.objs.size (.lst [])) s4 -> tn 0 s4.heap ->
      codeAny (model X.prog X.w) X.A (.compLoop (.ListComp elt [⟨tg,aK,ifs,0⟩] scope pos) 0 (.ref it) (.ref s2.heap.objs.size) (compEnvC scope (cellsFrom (hh.objs.size+1) scope.names cl) hh.objs.size X.env)) (RR (.ref s2.heap.objs.size) hh.objs.size) s4:=by
    intro s4 I4 Sa;refine qN (λn s'=>∃i τ H' ys,Inv X' [] τ H' s'/\tn i s'.heap/\(∀b∈fp,H' b=none)/\W i n τ H' ys) ?_ m0 ⟨0,_,_,[],I4,Sa,λb hb=>(f3 b hb).1,w0⟩;rintro n s5 ⟨i,τ,H5,ys,I5,NC,oP,w5⟩;obtain⟨Ek,stop | ⟨go,hz,step⟩⟩:=Bw i n τ H5 ys w5
    · have td:=T.done X' pG xw xK xc i [] s5 τ H5 (λ_ _=>False) I5 (UG oP) NC stop.1;rw[xA]at td;refine bX td ?_;rintro r s6 ⟨rfl,I6⟩;have base:=I6.base;have os:=I6.os;have bw:=I6.bw;have sW:=I6.free;obtain⟨m,hm,_⟩:=I6.loc;rw[FT]at sW hm;rw[<- hX]at base os bw;refine YO _ _ H5 s6 m (I3.Bj (ch:=fp) os base bw I6.bare λb hb=>⟨(f3 b hb).2.2.2.1,(f3 b hb).2.1,(f3 b hb).2.2.2.2.1,(f3 b hb).2.2.2.2.2⟩) hm sW I3.sz (Ba I3.lt) (I3.OF (aE _)) (λx c e z=>?_) (λp hp z=>?_) stop.2
      · obtain⟨v,q⟩:=I3.cell x c e;exact absurd q.lt (by rw[z];exact jF _)
      · exact absurd (bP (I3.pin p hp).1) (by rw[z];exact jF _)
    · have ti:=T.item X' pG xw xK xc i [] s5 τ H5 (λ_ _=>False) I5 (UG oP) NC go;rw[xA]at ti;refine bX ti ?_;rintro r s6 ⟨u,rfl,h6⟩;refine bX h6 ?_;rintro _ s7 ⟨x,H7,I7,r7,y7,UH,FU⟩;have YQ:=I7.pinned (UG FU) (T.obj _ _ UH);have ga:=WJ _ s7 τ H7 x u _ YQ r7 (step x H7 y7);rw[pG,xw,xA,Sb,FT]at ga;refine bX ga ?_;rintro _ s8 ⟨Ii,H8,I8,q8⟩
      have fin:∀{Se:St}{H9:Hp}{s9:Shared}{UI:List V},Inv X' ([]++kN fp s7.heap) Se H9 s9->(∃m',m'<n/\W (i+1) m' Se H9 UI)->∃m',m'<n/\∃i τ H' ys,Inv X' [] τ H' s9/\tn i s9.heap/\(∀b∈fp,H' b=none)/\W i m' τ H' ys:=λ{Se H9 s9 UI} I9 w9=>by
        obtain⟨m',hm,w9⟩:=w9;refine⟨m',hm,i+1,Se,H9,UI,I9.hU,T.keep _ _ _ UH λb hb o e=>(I9.pin (b,o) (lO _ (lO _ (gz hb e)))).1,λb hb=>?_,w9⟩;obtain⟨o,e,d⟩:=T.obj _ _ UH b hb;exact(I9.pin (b,o) (lO _ (lO _ (gz hb e)))).2.1
      have eA:∀b s9,TP X' ([]++kN fp s7.heap) Ii (λb H3 =>
        if b=true then te Ii H3 λv H4=>H4 s2.heap.objs.size=some (.lst ys)/\∃m',m'<n/\W (i+1) m' Ii (bu H4 s2.heap.objs.size (.lst (ys++[v]))) (ys++[v])
        else ∃ m', m' < n /\ W (i + 1) m' Ii H3 ys) b s9 -> (if b = true then wpAny (model X.prog X.w) X.A (eval elt (compEnvC scope (cellsFrom (hh.objs.size + 1) scope.names cl) hh.objs.size X.env)) (fun x zz =>
              wpAny (model X.prog X.w) X.A (call (.builtin "list.append") [.ref s2.heap.objs.size,x]) (λ_ B3=>∃m,m<n/\∃i τ H' ys,Inv X' [] τ H' B3/\tn i B3.heap/\(∀b∈fp,H' b=none)/\W i m τ H' ys) (λ_ _=>False) zz) (λ_ _=>False) s9
            else ∃m,m<n/\∃i τ H' ys,Inv X' [] τ H' s9/\tn i s9.heap/\(∀b∈fp,H' b=none)/\W i m τ H' ys):=by
        rintro b s9 ⟨H9,I9,q9⟩
        cases b with
        | false=>rw[aP (by simp)]at q9⊢;exact fin I9 q9
        | true =>
          rw[aF rfl]at q9⊢;have ge:=Pt _ s9 Ii H9 _ I9 q9;rw[pG,xw,xA,Sb,FT]at ge;refine bX ge ?_;rintro v YR ⟨y,YS,YT,YU,YV,YW⟩;have ap:=pC (X:=X') _ YR Ii YS (.ref s2.heap.objs.size) [y] (.ref s2.heap.objs.size) [v] (λ_ H'=>∃m',m'<n/\W (i+1) m' Ii H' (ys++[y])) YT rfl (.cons YU .nil) ⟨_,ys,y,rfl,rfl,YV,hz,YW⟩;rw[pG,xw,xA,Sb]at ap;exact bX ap λ_ s11 ⟨_,H11,YX,_,YY⟩=>fin YX YY
      cases tc with
      | none =>
        have ei:ifs=[]:=Pr;subst ei;exact wpAny_tests_nil (eA true s8 ⟨H8,I8,q8⟩)
      | some t =>
        obtain⟨c,ei,pt⟩:=Pr;subst ei;have pt:=pt hh.objs.size {s2 with heap:=hh} (bu H2 s2.heap.objs.size (.lst [])) fp;rw[hX]at pt;refine wpAny_tests_one ?_;have gt:=pt _ s8 Ii H8 _ I8 q8;rw[pG,xw,xA,Sb,FT]at gt;exact bX gt λb s9 q=>eA b s9 q
  have Ij:=loop _ I4 Sa;exact codeAny_compStart_list Ij (T.self _ 0 _ _ _ Sa Ij)
end
section
variable {X:Cx} {scope:Scope} {N':List Str} {cO:List (Option Nat)} {cl:List (Str×Addr)} {tg elt aK:Expr} {ifs:List Expr} {g:TG} {tc:Option TT} {te:TE} {wi:TI} {pos:Pos}
theorem FV(hc:X.calm=true)(hi:PI X tg aK wi)(ck:kS X scope N' cO cl tg elt ifs g tc te)(hs:∀x,foldedSetIterable aK X.env x=pure x:=by intro _;rfl):PE X (.ListComp elt [⟨tg,aK,ifs,0⟩] scope pos) (xM cO wi g tc te):=by
 intro ae s σ H Q I h;rw[eval_ListComp];refine wpAny_comprehension_free (use:=none) rfl hs ck.Kw.is ck.kind ck.names (bX (hi ae s σ H _ I h) λv s1 h1=>bX h1 λR0 s2 h2=>?_);obtain⟨it,fp,tn,J,H2,e,I2,T,Ff,f2,hC⟩:=h2;subst e;refine tJ (Q:=Q) (RR:=λacc C=>compPost (model X.prog X.w) X.A X.xe none (EP X ae σ Q) acc C) hc ck I2 T Ff f2 hC ?_;intro D C H' s' m I' hm B5 UJ Sf WK UK UL q;refine⟨m,hm,λh' UM=>?_⟩;exact⟨.ref D,H',I'.turned (t':=s'.toks) (λb o hb e=>UM.extBut b o hb e) B5 (cN (cN Sf)) (.inr UJ) UK UL,rfl,q⟩
theorem FW{y:Str}{py Pu:Pos}{i:Nat}(hc:X.calm=true)(hN:X.N.Nodup)(hy:X.N[i]?=some y)(hk:X.env.kindOf y=some .local)(Pw:swapsWith (.ListComp elt [⟨tg,aK,ifs,0⟩] scope pos) (some (.Name y py)) Pu.line X.env=pure true)(hi:PI X tg aK wi)(ck:kS X scope N' cO cl tg elt ifs g tc te)(hs:∀x,foldedSetIterable aK X.env x=pure x:=by intro _;rfl):PS X (.Assign [.Name y py] (.ListComp elt [⟨tg,aK,ifs,0⟩] scope pos) Pu) (λD σ H=>xM cO wi g tc te σ H λv H'=>D.nx (σ.set i (some v)) H'):=by
 intro ae s σ H D I h;rw[exec_Assign_Name_used _ _ _ _ Pw];refine aj (y3 (aj ?_));show wpAny _ X.A (do let _ <- comprehension (.ListComp elt [⟨tg,aK,ifs,0⟩] scope pos) scope X.env _ (newList []) false (eval aK X.env) (some (assign (.Name y py) X.env))) _ _ s;refine aj (jb (wpAny_comprehension_free (use:=some (assign (.Name y py) X.env)) (Q:=λ_ s'=>SP X ae D .next s') rfl hs ck.Kw.is ck.kind ck.names (bX (hi ae s σ H _ I h) λv s1 h1=>bX h1 λR0 s2 h2=>?_)) (λ_ s' hq=>aO (aO hq)) λ_ _ e=>e);obtain⟨it,fp,tn,J,H2,e,I2,T,Ff,f2,hC⟩:=h2;subst e;refine tJ (Q:=λv H'=>D.nx (σ.set i (some v)) H') (RR:=λacc C=>compPost (model X.prog X.w) X.A X.xe (some (assign (.Name y py) X.env)) (λ_ s'=>SP X ae D .next s') acc C) hc ck I2 T Ff f2 hC ?_;intro D' C H' s' m I' hm B5 UJ Sf WK UK UL q;show wpAny _ X.A (assign (.Name y py) X.env (.ref D')) _ _ s';obtain⟨o,es,ep,ho,hd,Px⟩:=hm
 have Ip:Inv X (ae++[(C,o)]) σ H' s':=I'.qt λp hp=>(eV.mp hp).elim (λz=>I'.pin p (lO _ z)) λz=>by
  have e:p=(C,o):=by simpa using z
  subst e;exact⟨ho,B5,Sf,WK,λv z=>by rw[hd]at z;cases z⟩
 have st:=qy (pos:=py) hN hy (.inl hk) (.inr hk) _ s' σ H' (.ref D') (.ref D') (λcY H'=>D.nx cY H') Ip rfl q;refine bX st ?_;rintro _ O4 ⟨UN,YZ,WL,Y0⟩;have pc:=WL.pin (C,o) (by simp);refine⟨m,⟨o,es,ep,pc.1,hd,Px⟩,λh' UM=>?_⟩;exact⟨UN,YZ,WL.hU.turned (t':=O4.toks) (λb o hb e=>UM.extBut b o hb e) pc.2.1 Sf (.inr UJ) UK UL,Y0⟩
end
end L2
end
section
namespace L2
open PySem PySem.Spec PyProof.Rows
section
variable {prog:Program} {w:World} {A:Around} {E:Value->Shared->Prop} {s:Shared}
noncomputable def xN(prog:Program)(w:World)(A:Around)(s:Shared)(it:Addr)(x:Value)(after:Heap->Prop):Prop :=
 ∀(Q:Value->Shared->Prop)(E:Value->Shared->Prop),(∀h',after h'->Heap.SameBut it s.heap h'->Q x {s with heap:=h'})->wpAny (model prog w) A (Builtin.SmallTypes.nextOf (.ref it)) Q E s
noncomputable def B6(prog:Program)(w:World)(A:Around)(s:Shared)(it:Addr):Prop :=
 ∀(Q:Value->Shared->Prop)(E:Value->Shared->Prop),(∀h' e,Heap.ExtBut it s.heap h'->(∃o,h'.get? e=some o/\o.cls=.type "StopIteration")->E (.ref e) {s with heap:=h'}) ->
  wpAny (model prog w) A (Builtin.SmallTypes.nextOf (.ref it)) Q E s
theorem vS{it l:Addr}{i:Nat}{items:Array Value}{x:Value}(hit:s.heap.IsListIter it l i)(hl:s.heap.IsList l items)(hx:items[i]?=some x):xN prog w A s it x (λh=>h.IsListIter it l (i+1)):=λQ E hq=>wpAny_nextOf_list_item hit hl hx hq
theorem vT{it l:Addr}{i:Nat}{items:Array Value}(hh:A.handled=none)(hit:s.heap.IsListIter it l i)(hl:s.heap.IsList l items)(hx:items[i]?=none):B6 prog w A s it:=λQ E hq=>wpAny_nextOf_list_end hh hit hl hx hq
theorem zA{it t:Addr}{i:Nat}{items:Array Value}{x:Value}(hit:s.heap.IsTupleIter it t i)(ht:s.heap.IsTuple t items)(hx:items[i]?=some x):xN prog w A s it x (λh=>h.IsTupleIter it t (i+1)):=by
 intro Q E hq;obtain⟨o,e1,e2,e3⟩:=id hit;obtain⟨ot,t1,_,nt,t2⟩:=ht;unfold Builtin.SmallTypes.nextOf;refine aj (yO (name:=Str.ofString "__next__") hit.typeIs EA ?_);refine yX EA hit.typeIs F.entry_tuple_iterator_next ?_ (F.args_tuple_iterator_next_1 _);show wpAny _ _ (field (.ref it) 0 >>= _) _ _ s;refine aj (fL e1 e3 (x:=.ref t) rfl ?_);show wpAny _ _ (if (Value.ref t==Value.none)=true then _ else _) _ _ s;rw[aP (by intro z;cases z)];refine aj (fL e1 e3 (x:=.int i 0) rfl (aj (wpAny_seqItems t1 t2 ?_)));simp only[yT,hx];refine aj (AX e1 e3 (by simp) (aO ⟨x,rfl,aO (hq _ ⟨_,yP _ e1 (Jo (ER e3 _)),(Obj.cls_mapFields ..).trans e2,?_⟩ (EM ..))⟩));rw[ER e3];simp[rawInt]
theorem zB{it t:Addr}{i:Nat}{items:Array Value}(hh:A.handled=none)(hit:s.heap.IsTupleIter it t i)(ht:s.heap.IsTuple t items)(hx:items[i]?=none):B6 prog w A s it:=by
 intro Q E hq;obtain⟨o,e1,e2,e3⟩:=id hit;obtain⟨ot,t1,_,nt,t2⟩:=ht;unfold Builtin.SmallTypes.nextOf;refine aj (yO (name:=Str.ofString "__next__") hit.typeIs EA ?_);refine yX EA hit.typeIs F.entry_tuple_iterator_next ?_ (F.args_tuple_iterator_next_1 _);show wpAny _ _ (field (.ref it) 0 >>= _) _ _ s;refine aj (fL e1 e3 (x:=.ref t) rfl ?_);show wpAny _ _ (if (Value.ref t==Value.none)=true then _ else _) _ _ s;rw[aP (by intro z;cases z)];refine aj (fL e1 e3 (x:=.int i 0) rfl (aj (wpAny_seqItems t1 t2 ?_)));simp only[yT,hx];refine aj (vC (aj (AX e1 e3 (by simp) ?_)));show wpAny _ _ (newExc (.type "StopIteration") [] >>= _) _ _ _;refine aj ?_;simp only[newExc,newTuple];refine aj (lP ?_ (by size_fits));refine aj (m:=firstArgMember _ _) (wpAny_of_eq (a:=Value.none) (by first | rfl | (simp only[firstArgMember];rfl)) (lP ?_ (by size_fits)));simp only[raiseNew];refine aj (wpAny_handled ?_)
 first | rw[show A.in1.handled=none from hh] | rw[hh]
 exact aj (aO (wpAny_throw (hq _ _ (((EM ..).extBut.push _).push _) ⟨_,gX _ rfl,rfl⟩)))
theorem zC {e it : Addr} {i : Nat} {x sA : Value} {st : Heap -> Prop} {Q : Option Value -> Shared -> Prop} (he : IsEnum s.heap e it i sA) (mZ : e ≠ it) (gh : it < s.heap.objs.size) (hn : xN prog w A.in1 s it x st)
    (tK:∀h h',st h->(∀o,h.get? it=some o->h'.get? it=some o)->st h')
    (hQ:∀h',IsEnumOut h' e it ((i:Int)+1) x s.heap.objs.size->st h'->h'.get? s.heap.objs.size=some {cls:=.type "tuple",data:=.seq #[.int i s.toks,x]} ->
      (∀b o,b≠e->b≠it->s.heap.get? b=some o->h'.get? b=some o)->Q (some (.ref s.heap.objs.size)) {s with heap:=h',toks:=s.toks+1}) :
    wpAny (model prog w) A (pyNext (.ref e)) Q E s:=by
  have hT:s.TypeIs (.ref e) "enumerate" := ⟨_,he,rfl⟩;unfold pyNext
  refine aj (wpAny_attempt (yO (name:=Str.ofString "__next__") hT ED
    (yX ED hT F.entry_enumerate_next ?_ (F.args_enumerate_next_1 _))))
  obtain⟨hp,g,d,tk,os⟩:=s;show wpAny _ _ (field (.ref e) 2 >>= _) _ _ _;refine aj (fL he rfl (x:=.ref it) rfl (aj (hn _ _ λk1 Y1 Py=>?_)));have Py:Heap.SameBut it hp k1:=Py;have a1:IsEnum k1 e it i sA:=(Py.2 e mZ).trans he;refine aj (fL (s:=⟨k1,g,d,tk,os⟩) a1 rfl (x:=rawInt i) rfl ?_);refine aj (fL (s:=⟨k1,g,d,tk,os⟩) a1 rfl (x:=.none) rfl ?_);refine aj (wpAny_mkInt (s:=⟨k1,g,d,tk,os⟩) ?_);refine aj (AJ (s:=⟨k1,g,d,tk+1,os⟩) a1 (by simp) λk2 a2 Sg=>?_);have Sg:Heap.SameBut e k1 k2:=Sg;have a2:IsEnum k2 e it ((i:Int)+1) sA:=a2;refine aj (AJ (s:=⟨k2,g,d,tk+1,os⟩) a2 (by simp) λk3 a3 Sh=>?_);have Sh:Heap.SameBut e k2 k3:=Sh;have a3:IsEnum k3 e it ((i:Int)+1) sA:=a3;refine aj (wpAny_newTuple (s:=⟨k3,g,d,tk+1,os⟩) ?_);have sz:k3.objs.size=hp.objs.size:=by rw[Sh.1,Sg.1,Py.1]
  have el:e<hp.objs.size:=bP he;have Y2:hp.objs.size≠e:=Ba el;generalize UO:k3.push {cls:=.type "tuple",data:=.seq #[.int i tk,x]}=k4;have a4:IsEnum k4 e it ((i:Int)+1) sA:=by rw[<- UO];exact cI _ a3
  have t4:k4.get? hp.objs.size=some {cls:=.type "tuple",data:=.seq #[.int i tk,x]}:=by rw[<- UO,<- sz];exact gX _ rfl
  have up:∀b o,b≠e->k1.get? b=some o->k4.get? b=some o:=λb o hb q=>by rw[<- UO];exact cI _ (Sh.extBut b o hb (Sg.extBut b o hb q))
  dsimp only;rw[sz];refine aj ?_;unfold Builtin.SmallTypes.ownedTupleIsFree;refine aj (fL (s:=⟨k4,g,d,tk+1,os⟩) a4 rfl (x:=.none) rfl (aO ?_));simp only[dA];refine aj (vC (aj (fL (s:=⟨k4,g,d,tk+1,os⟩) a4 rfl (x:=sA) rfl ?_)));refine aj (AJ (s:=⟨k4,g,d,tk+1,os⟩) a4 (by simp) λk5 a5 UP=>?_);have UP:Heap.SameBut e k4 k5:=UP;have a5:IsEnum k5 e it ((i:Int)+1) x:=a5;refine aj ?_;unfold Builtin.SmallTypes.ownedTupleHandOut;refine aj (AJ (s:=⟨k5,g,d,tk+1,os⟩) a5 (by simp) λk6 a6 UQ=>?_);have UQ:Heap.SameBut e k5 k6:=UQ;have a6:IsEnumOut k6 e it ((i:Int)+1) x hp.objs.size:=a6;refine AJ (s:=⟨k6,g,d,tk+1,os⟩) a6 (by simp) λk7 a7 UR=>?_;have UR:Heap.SameBut e k6 k7:=UR;have a7:IsEnumOut k7 e it ((i:Int)+1) x hp.objs.size:=a7;have US:∀b o,b≠e->k4.get? b=some o->k7.get? b=some o:=λb o hb q=>UR.extBut b o hb (UQ.extBut b o hb (UP.extBut b o hb q));refine aj (wpAny_letGo (aO ⟨_,rfl,aO (hQ k7 a7 ?_ (US _ _ Y2 t4) ?_)⟩))
  · exact tK k1 k7 Y1 λo q=>US _ _ (cN mZ) (up _ _ (cN mZ) q)
  · intro b o R_ Y3 q;exact US b o R_ (up b o R_ (Py.extBut b o Y3 q))
theorem tL{e it:Addr}{i:Nat}{sA:Value}{Q:Option Value->Shared->Prop}(he:IsEnum s.heap e it i sA)(hn:B6 prog w A.in1 s it)(hQ:∀h',Heap.ExtBut it s.heap h'->Q none {s with heap:=h'}):wpAny (model prog w) A (pyNext (.ref e)) Q E s:=by
 have hT:s.TypeIs (.ref e) "enumerate" := ⟨_,he,rfl⟩;unfold pyNext
 refine aj (wpAny_attempt (yO (name:=Str.ofString "__next__") hT ED
  (yX ED hT F.entry_enumerate_next ?_ (F.args_enumerate_next_1 _))))
 show wpAny _ _ (field (.ref e) 2 >>= _) _ _ _;refine aj (fL he rfl (x:=.ref it) rfl (aj (hn _ _ λk x hk hx=>?_)));obtain⟨o,ho,hc⟩:=hx;exact aj (wpAny_isInstance (T := "StopIteration") (b:=true) ⟨o,ho,hc⟩ isSubtype_stop (aO (hQ _ hk)))
end
theorem tM{h:Heap}{o:Obj}{b:Addr}(hb:b≠h.objs.size):(h.push o).get? b=h.get? b:=Heap.get?_push_ne h b o hb
theorem Inv.FX{X:Cx}{ae:List (Addr×Obj)}{σ:St}{H:Hp}{s:Shared}{h':Heap}{t':Nat}{ch:List Addr}(I:Inv X ae σ H s)(k:∀b o,b∉ch->s.heap.get? b=some o->h'.get? b=some o)(hf:∀b∈ch,lS X ae H b):Inv X ae σ H {s with heap:=h',toks:=t'}:=by
 have OH:∀b u,H b=some u->b∉ch:=λb u e z=>by rw[(hf b z).1]at e;cases e
 refine I.step (g':=s.gens) (d':=s.drawn) (ch:=ch) (λb hb=>⟨(hf b hb).2.2.2.1,(hf b hb).2.1,(hf b hb).2.2.2.2.1,(hf b hb).2.2.2.2.2⟩) (λb o _ _ hc e _=>k b o hc e) (λb o _ _ hc e _=>⟨o.slots,k b o hc e⟩) (λ_ _ _ _ n=>n)
  (λb o hc e=>⟨o,k b o hc e⟩) (λ_ _ e=>e) (λ_ _ _ e=>e) (λb ps e=>⟨#[],by rw[e];simp⟩) (λm hm=>?_) (λb u e=>?_) I.bare
 ·obtain⟨o,es,ep,ho,r⟩:=hm;exact⟨o,es,ep,k _ o (λz=>(hf _ z).2.1 rfl) ho,r⟩
 ·refine(I.bw b u e).qm (λc v hc q=>k c v ?_ q) (λ_ q=>q) λ_ _ q=>q;rcases hc with z | z
  ·rw[z];exact OH b u e
  ·exact OH c _ z
def NH(K:Frag)(H:Hp)(l:Bool)(a:Addr)(xs:List V):Prop:=if l=true then fN K H a xs else gx K H a xs
def Si(K:Frag)(l:Bool)(a:Addr):It :=
 ⟨λi H=>∃xs x,NH K H l a xs/\xs[i]?=some x,λi H x H'=>∃p y,x=.ref p/\H p=none/\H'=bu H p (.tup [.int i,y])/\∀xs,NH K H l a xs->xs[i]?=some y,λi H=>∃xs,NH K H l a xs/\xs.length<=i⟩
noncomputable def qP(l:Bool)(h:Heap)(it a:Addr)(i:Nat):Prop:=if l=true then h.IsListIter it a i else h.IsTupleIter it a i
theorem qP.at{l:Bool}{h h':Heap}{it a:Addr}{i:Nat}(x:qP l h it a i)(e:∀o,h.get? it=some o->h'.get? it=some o):qP l h' it a i:=by
 cases l with
 | true=>exact Heap.IsListIter.at (show h.IsListIter it a i from x) e
 | false=>exact Heap.IsTupleIter.at (show h.IsTupleIter it a i from x) e
theorem qP.obj{l:Bool}{h:Heap}{it a:Addr}{i:Nat}(x:qP l h it a i):∃o,h.get? it=some o/\o.data=.fields #[.ref a,.int i 0]:=by
 cases l with
 | true=>obtain⟨o,e,_,d⟩:=(show h.IsListIter it a i from x);exact⟨o,e,d⟩
 | false=>obtain⟨o,e,_,d⟩:=(show h.IsTupleIter it a i from x);exact⟨o,e,d⟩
theorem zD{P:Program}{w:World}{K:Frag}{FY:List Expr}{k:Nat}{tp:Pos}(l:Bool)(a e it:Addr)(mZ:e≠it):zh P w K (.Tuple FY k tp) (Si K l a) [e,it] e (λi h=>(∃sA,IsEnum h e it i sA)/\qP l h it a i) where
  mem:=by simp
  obj:=λi h st b hb=>by
    obtain⟨⟨sA,h1⟩,h2⟩:=st;have hb:b=e\/b=it:=by simpa using hb
    rcases hb with rfl | rfl
    · exact⟨_,h1,λv z=>by have z':Data.fields _=Data.cell v:=z;cases z'⟩
    · obtain⟨o,q,d⟩:=h2.obj;exact⟨o,q,λv z=>by rw[d]at z;cases z⟩
  keep:=λi h h' st k=>by
    obtain⟨⟨sA,h1⟩,h2⟩:=st;exact⟨⟨sA,k e (by simp) _ h1⟩,h2.at λo q=>k it (by simp) o q⟩
  item:=by
    intro X hP hw hK hc i ae s σ H E I hf st hg;subst hP hw hK;obtain⟨⟨sA,h1⟩,h2⟩:=st;obtain⟨xs,x,hq,hx⟩:=hg;have WM:=hf e (by simp);have Ik:=hf it (by simp);obtain⟨oi,qi,di⟩:=h2.obj
    have main : ∀ (u : Value), RelV x u -> xN X.prog X.w X.A.in1 s it u (fun h => qP l h it a (i + 1)) -> (∀ ys, NH X.K H l a ys -> ys[i]? = some x) ->
        wpAny (model X.prog X.w) X.A (pyNext (.ref e)) (λr s1=>∃u,r=some u /\
          wpAny (model X.prog X.w) X.A (letOwnedTupleGo (.Tuple FY k tp) (.ref e) u) (λ_ s2=>∃x H',Inv X ae σ H' s2/\RelV x u/\(Si X.K l a).NB i H x H'/\((∃sA,IsEnum s2.heap e it ((i+1:Nat):Int) sA)/\qP l s2.heap it a (i+1))/\∀b∈[e,it],H' b=none) E s1) E s:=by
      intro u ru hn vM;refine zC h1 mZ (bP qi) hn (λh h' st hk=>st.at hk) λh' o1 o2 o3 o4=>⟨_,rfl,?_⟩;refine wpAny_letOwnedTupleGo_enum (s:={s with heap:=h',toks:=s.toks+1}) o1 λWN p1 p2=>?_;have p2:Heap.SameBut e h' WN:=p2;have fr:H s.heap.objs.size=none:=I.bw.fresh (aE _)
      have I1:Inv X ae σ (bu H s.heap.objs.size (.tup [.int i,x])) {s with heap:=s.heap.push {cls:=.type "tuple",data:=.seq #[.int i s.toks,u]},toks:=s.toks+1} :=
        I.laid (λb o q=>cI _ q) (aE _) ⟨by show 2<=sizeLine;decide,[.int i s.toks,u],.cons ⟨_,rfl⟩ (.cons ru .nil),⟨_,gX _ rfl,rfl,0,rfl⟩⟩
      have ne1:e≠s.heap.objs.size:=eK (bP h1);have ne2:it≠s.heap.objs.size:=eK (bP qi)
      have WO:∀b∈[e,it],lS X ae (bu H s.heap.objs.size (.tup [.int i,x])) b:=λb hb=>by
        have sy:b=e\/b=it:=by simpa using hb
        rcases sy with z | z
        · subst z;exact⟨by rw[aq ne1];exact WM.1,WM.2⟩
        · subst z;exact⟨by rw[aq ne2];exact Ik.1,Ik.2⟩
      have I2:=I1.FX (h':=WN) (t':=s.toks+1) (ch:=[e,it]) (λb o hb q=>by
        have sy:b≠e/\b≠it:=by simpa using hb
        refine p2.extBut b o sy.1 ?_;by_cases hz:b=s.heap.objs.size
        · subst hz;have q':(s.heap.push {cls:=.type "tuple",data:=.seq #[.int i s.toks,u]}).get? s.heap.objs.size=some _:=gX _ rfl;rw[q']at q;cases q;exact o3
        · have q2 : s.heap.get? b = some o := by
            have gh:=bP q;rw[sR]at gh
            cases hs:s.heap.get? b with
            | some o'=>rw[cI _ hs]at q;exact q
            | none=>exact absurd q (by rw[tM hz,hs];intro z;cases z)
          exact o4 b o sy.1 sy.2 q2) WO
      refine⟨.ref s.heap.objs.size,_,I2,rfl,⟨s.heap.objs.size,x,rfl,fr,rfl,vM⟩,⟨⟨_,p1⟩,o2.at λo q=>p2.extBut _ _ (cN mZ) q⟩,λb hb=>(WO b hb).1⟩
    cases l with
    | true =>
      have hq:fN X.K H a xs:=hq;obtain⟨aA,rv,p,hz⟩:=I.list hq;obtain⟨u,hu,ru⟩:=rv.get hx;exact main u ru (vS (show s.heap.IsListIter it a i from h2) p.isList (by simpa using hu)) λys hy=>by rw[I.sX (show fN X.K H a ys from hy) hq];exact hx
    | false =>
      have hq:gx X.K H a xs:=hq;obtain⟨aA,rv,p,hz⟩:=I.tuple hq;obtain⟨u,hu,ru⟩:=rv.get hx;exact main u ru (zA (show s.heap.IsTupleIter it a i from h2) (show s.heap.IsTuple a aA.toArray from p) (by simpa using hu)) λys hy=>by rw[I.pf (show gx X.K H a ys from hy) hq];exact hx
  done:=by
    intro X hP hw hK hc i ae s σ H E I hf st hg;subst hP hw hK;obtain⟨⟨sA,h1⟩,h2⟩:=st;obtain⟨xs,hq,hx⟩:=hg;have Ik:=hf it (by simp);have hh:X.A.in1.handled=none:=I.ok.hd hc;have fin:∀h',Heap.ExtBut it s.heap h'->(none:Option Value)=none/\Inv X ae σ H {s with heap:=h'}:=λh' eb=>⟨rfl,I.turned (t':=s.toks) (λb o hb q=>eb b o hb q) Ik.1 Ik.2.1 Ik.2.2.2.1 Ik.2.2.2.2.1 Ik.2.2.2.2.2⟩
    cases l with
    | true =>
      obtain⟨aA,rv,p,hz⟩:=I.list (show fN X.K H a xs from hq);have hl:=rv.length;exact tL h1 (vT hh (show s.heap.IsListIter it a i from h2) p.isList (by simp;omega)) λh' eb=>fin h' eb
    | false =>
      obtain⟨aA,rv,p,hz⟩:=I.tuple (show gx X.K H a xs from hq);have hl:=rv.length;exact tL h1 (zB hh (show s.heap.IsTupleIter it a i from h2) (show s.heap.IsTuple a aA.toArray from p) (by simp;omega)) λh' eb=>fin h' eb
  self:=λA i s Q E st h=>by
    obtain⟨⟨sA,h1⟩,_⟩:=st;exact wpAny_pyIter_enum h1 h
theorem m8 (t : Addr) (items : Array Value) :
    Meets (Builtin.«enumerate.__new__» ⟨[.type "enumerate",.ref t],[]⟩) (λ_ R s=>s.heap.IsTuple t items /\
      R (.ok (.ret (.ref (s.heap.push {cls:=.type "tuple_iterator",data:=.fields #[.ref t,.int 0 0]}).objs.size)))
        {s with heap:=(s.heap.push {cls:=.type "tuple_iterator",data:=.fields #[.ref t,.int 0 0]}).push {cls:=.type "enumerate",data:=.fields #[.none,.bool false,.ref s.heap.objs.size,rawInt 0,.none,.none]}}) :=
  .of_wp λprog w A R s h=>by
    obtain⟨hp,g,d,tk,os⟩:=s;obtain⟨hT,h⟩:=h;have Y4:=sub_enumerate;have hT:Heap.IsTuple (Shared.heap ⟨hp,g,d,tk,os⟩) t items:=hT
    wp_walk
    refine wpAny_stack_any λst=>aO ?_;split
    · rename_i c _ _ _ _ _
      cases (c==Value.type "enumerate")<;>(wp_walk using wpAny_pyIter_tuple hT;exact⟨_,rfl,h⟩)
    · wp_walk using wpAny_pyIter_tuple hT
      exact⟨_,rfl,h⟩
section
variable {prog:Program} {w:World} {A:Around} {E:Value->Shared->Prop} {s:Shared}
theorem zE{l:Bool}{a:Addr}{items:Array Value}{Q:Value->Shared->Prop}(hs:if l=true then s.heap.IsList a items else s.heap.IsTuple a items)(h:∀h',IsEnum h' (s.heap.objs.size+1) s.heap.objs.size 0 .none->qP l h' s.heap.objs.size a 0->(∀b o,s.heap.get? b=some o->h'.get? b=some o)->Q (.ref (s.heap.objs.size+1)) {s with heap:=h'}):wpAny (model prog w) A (call (.type "enumerate") [.ref a]) Q E s:=by
 cases l with
 | true=>exact call_enumerate_list (show s.heap.IsList a items from hs) λh' h1 h2 _ h4=>h h' h1 h2 h4
 | false =>
  have hs:s.heap.IsTuple a items:=hs;refine callType_new F.called_enumerate (by decide) (F.typeCall_enumerate_1 _) (F.newCall_enumerate_1 _) (λobj=>F.args_object_init_2 obj _) F.entry_enumerate_new (m8 a items) ⟨hs,?_⟩;have hz:(s.heap.push {cls:=.type "tuple_iterator",data:=.fields #[.ref a,.int 0 0]}).objs.size=s.heap.objs.size+1:=sR ..;show _/\_;have he:=gX (s.heap.push {cls:=.type "tuple_iterator",data:=.fields #[.ref a,.int 0 0]}) (o:={cls:=.type "enumerate",data:=.fields #[.none,.bool false,.ref s.heap.objs.size,rawInt 0,.none,.none]}) rfl;rw[hz]at he⊢;exact⟨⟨_,he,rfl⟩,h _ he ⟨_,cI _ (gX _ rfl),rfl,rfl⟩ λb o x=>cI _ (cI _ x)⟩
end
section
variable {X:Cx}
def Pz(K:Frag)(ta:TA):TI:=λσ H R=>ta σ H λvs H1=>∃(l:Bool) (a:Addr),vs=[.ref a]/\(∃xs,NH K H1 l a xs)/\R (Si K l a) H1
theorem FZ{a:Expr}{ta:TA}{p pos tp:Pos}{FY:List Expr}{k:Nat} (hg:Gl X "enumerate") (hm:X.mg "enumerate" = none) (ha:PA X [a] ta) (hs:starEach [a] X.env=[(false,eval a X.env)]):PI X (.Tuple FY k tp) (.Call (.Name "enumerate" p) [a] [] pos) (Pz X.K ta):=by
 intro ae s σ H R I h;refine Call_ (mP I hg hm boot_enumerate (Jg (bX (ha pos ae s σ H _ I h) ?_) hs rfl));rintro us s1 ⟨vs,H1,I1,r1,q1⟩;obtain⟨l,b,rfl,⟨xs,hq⟩,q⟩:=q1;obtain⟨u,rfl,ru⟩:=vals1 r1;cases ru
 have hit:∃aA:Array Value,if l=true then s1.heap.IsList b aA else s1.heap.IsTuple b aA:=by
  cases l with
  | true=>obtain⟨aA,_,p,_⟩:=I1.list (show fN X.K H1 b xs from hq);exact⟨aA.toArray,p.isList⟩
  | false=>obtain⟨aA,_,p,_⟩:=I1.tuple (show gx X.K H1 b xs from hq);exact⟨aA.toArray,p⟩
 obtain⟨aA,hit⟩:=hit;refine zE hit λh' e1 e2 e3=>?_;refine wpAny_pyIter_enum (s:={s1 with heap:=h'}) e1 ?_;have I2:Inv X ae σ H1 {s1 with heap:=h'}:=I1.kept (t':=s1.toks) e3;refine⟨s1.heap.objs.size+1,[s1.heap.objs.size+1,s1.heap.objs.size],_,_,H1,rfl,I2,zD l b _ _ (Nat.succ_ne_self _),⟨⟨_,e1⟩,e2⟩,λc hc=>?_,q⟩;have ze:c=s1.heap.objs.size+1\/c=s1.heap.objs.size:=by simpa using hc
 rcases ze with z | z
 ·subst z;exact I1.Bs (y6 _) (I1.bw.fresh (y6 _))
 ·subst z;exact I1.Bs (aE _) (I1.bw.fresh (aE _))
end
end L2
end
section
namespace L2
open PySem PySem.Spec PyProof.Rows
end L2
end
section
namespace L2
open PySem PySem.Spec PyProof.Rows
section
variable {X:Cx}
theorem UT{n c:Nat}(h:c∈[n+4,n+2,n+3,n,n+1]):n<=c:=by
 simp only[bT,fW,fb]at h;omega
end
end L2
end
section
namespace L2
open PySem PySem.Spec PyProof.Rows
open AutoSeq1 (wpAny_loadPart')
end L2
end
section
namespace L2
open PySem PySem.Spec PyProof.Rows
theorem iR:entryFor table "dict.update.loop" = some Builtin.«dict.update.loop»:=entryFor_of_tree (nofun)
theorem eF:plainId "dict.update.loop" = true:=⋯
theorem qQ:typeLookup (.type "list") "keys" = pure none:=by rw[typeLookup_type,Jp];kernel_rfl
section
variable {prog:Program} {w:World} {A:Around} {E:Value->Shared->Prop} {s:Shared}
theorem jg{a:Addr}{o:Obj}{xs:Array Value}{k:Nat}{Q:Option Value->Shared->Prop}(hx:s.heap.get? a=some o) (hc:o.cls=.type "list") (tN:o.data=.seq xs k) (hd:o.dict=none) (hA:A.handled=none) (h:∀h' tk,(∀b o,s.heap.get? b=some o->h'.get? b=some o)->Q none {s with heap:=h',toks:=tk}):wpAny (model prog w) A (getAttr? (.ref a) "keys") Q E s:=by
 obtain⟨c,zF,dat,sl⟩:=o;simp only at hc tN hd;subst hc tN hd;obtain⟨hp,g,d,tk,os⟩:=s;have hT:∀Au,(⟨hp,g,d,Au,os⟩:Shared).TypeIs (.ref a) "list" := λ_=>⟨_,hx,rfl⟩;have f1:=sub_AttributeError;have f3:=Jj.lookup;have f4:=Jj.bind (.ref a);have f5:=am_list_getattr_none;unfold getAttr? getAttrBy? getAttrBy
 repeat (any_goals (first | assumption | exact hT _ | ((with_reducible show wpAny _ _ (call (Value.builtin "list.__getattribute__") _ _) _ _ _);refine call_meets Jj (hT _) am_entry_list_getattribute (F.args_list_getattribute_2 _ _) (meets_getattribute_miss_list a xs k sl "keys" _ qQ ⋯ ⋯) ⟨hx,hA,λh' Au e WQ=>?_⟩) | wp_step))
 obtain⟨t',u',he⟩:=WQ.there;show wpAny _ _ (getattributeRaised _ _ _ _ _ _ _) _ _ _;unfold getattributeRaised
 repeat (any_goals (first | assumption | wp_step))
 exact h _ _ WQ.of.keeps
noncomputable def lE(kv:Nat->bD×Value):Nat->List (bD×Value)
 | 0=>[]
 | n+1=>stored (lE kv n) (kv n).1 (kv n).2
theorem kT(kv:Nat->bD×Value):∀n,(lE kv n).length<=n
 | 0=>aE _
 | n+1=>bJ (stored_length_le _ _ _) (Nat.succ_le_succ (kT kv n))
theorem F0 {R : Result -> Shared -> Prop} {I : Addr} {fp wr : List Addr} {n : Nat} {P : Nat -> Value -> Prop} {St : Nat -> Heap -> Prop} (W : Walks prog w A.in1 I fp wr n P St) (d : Addr) (Ie : d ∉ fp) (hn : n <= sizeLine)
    (kv:Nat->bD×Value) (h0:Heap) (Kx:∀i v,P i v->∃a uk,v=.ref a/\a∉wr/\a≠d/\g8 (kv i).1 uk=true/\IsTup h0 a #[uk,(kv i).2]) :
    ∀(k i:Nat)(s:Shared)(j:Int)(t:Tok),n-i=k->i<=n->St i s.heap->(∀b o,b∉wr->b≠d->h0.get? b=some o->s.heap.get? b=some o)->s.heap.DictOf (bA prog w) d (lE kv i) ->
      (∀h' tk,(∀b o,b∉wr->b≠d->s.heap.get? b=some o->h'.get? b=some o)->h'.DictOf (bA prog w) d (lE kv n)->R (.ok (.ret .none)) {s with heap:=h',toks:=tk}) ->
      codeAny (model prog w) A (.builtin "dict.update.loop" ⟨[.ref d,.ref I,.int j t,.none],[]⟩) R s:=by
  have WR:d∉wr:=λh=>Ie (W.sub _ h);intro k
  induction k with
  | zero =>
    intro i s j t hk hi fO tK hd hR;have B7:i=n:=∅;subst B7;refine codeAny_builtin iR ?_;rw[Around.under_plainId eF _];show wpAny _ A.in1 (pyNext (.ref I) >>= _) _ _ s;refine aj (W.done s _ _ fO λh' tk hm=>?_);show wpAny _ A.in1 (Builtin.Dict.addKeywords d [] >>= _) _ _ _;refine aj (aO (aO (hR h' tk (λb o hb _ e=>hm b o hb e) ?_)));obtain⟨o,es,ep,ho,eA⟩:=hd;exact⟨o,es,ep,hm d _ WR ho,eA⟩
  | succ k ih =>
    intro i s j t hk hi fO tK hd hR;have gh:i<n:=∅;refine codeAny_builtin iR ?_;rw[Around.under_plainId eF _];show wpAny _ A.in1 (pyNext (.ref I) >>= _) _ _ s;refine aj (W.item i s _ _ gh fO λv h' tk hP UU hm=>?_);obtain⟨a,uk,rfl,WS,Y5,Kb,o,ho,hc,q,tN⟩:=Kx i v hP;have xx:h'.get? a=some o:=hm _ _ WS (tK _ _ WS Y5 ho)
    have JL:h'.DictOf (bA prog w) d (lE kv i):=by
      obtain⟨o,es,ep,ho,eA⟩:=hd;exact⟨o,es,ep,hm d _ WR ho,eA⟩
    have hT:∀Au,Shared.TypeIs {s with heap:=h',toks:=Au} (.ref a) "tuple" := λ_=>⟨o,xx,hc⟩;refine aj (mK (aj (wpAny_tryCatch ?_)));unfold Builtin.Dict.pairItems;refine aj (Bd (hT _) ?_);have hz:(Value.type "tuple" == Value.type "list" || Value.type "tuple" == Value.type "tuple")=true:=⋯;rw[aF hz];refine aj (wpAny_seqItems (s:={s with heap:=h',toks:=tk}) xx tN (aO ?_));show wpAny _ A.in1 (holding [uk,(kv i).2] (dictSet d uk (kv i).2)) _ _ _;refine mK (wpAny_dictSet_pairs (knd:=bA prog w) (k:=(kv i).1) Kb JL (λh2 hd2 UW=>?_) (bJ (kT kv i) ∅));refine aO ⟨plainId_quiet eF _,ih (i+1) _ _ _ ∅ gh (W.frame _ _ _ UU λb hb o e=>?_) (λb o hb B8 e=>?_) hd2 λh3 Y6 Y7 PB=>?_⟩
    · show h2.get? b=some o;rw[UW.2 b (λz=>Ie (by rw[<- z];exact hb))];exact e
    · show h2.get? b=some o;rw[UW.2 b B8];exact hm _ _ hb (tK _ _ hb B8 e)
    · refine hR h3 Y6 (λb o hb B8 e=>Y7 b o hb B8 ?_) PB;show h2.get? b=some o;rw[UW.2 b B8];exact hm _ _ hb e
theorem F1{l:Addr}{aA:List Value}{Q:Value->Shared->Prop}(hA:A.handled=none)(hl:PlainL s.heap l aA.toArray)(hn:aA.length<=sizeLine)(kv:Nat->bD×Value)(Kx:∀i v,aA[i]?=some v->∃a uk,v=.ref a/\g8 (kv i).1 uk=true/\IsTup s.heap a #[uk,(kv i).2])(h:∀h' tk,(∀b o,s.heap.get? b=some o->h'.get? b=some o)->h'.DictOf (bA prog w) s.heap.objs.size (lE kv aA.length)->Q (.ref s.heap.objs.size) {s with heap:=h',toks:=tk}):wpAny (model prog w) A (call (.type "dict") [.ref l]) Q E s:=by
 refine callType_codes (Q₁:=λobj br=>obj=.ref s.heap.objs.size/\br={s with heap:=s.heap.push {cls:=.type "dict",data:=.dict #[]}}) F.kt_called_dict (F.kt_typeCall_dict_1 _) F.entry_dict_init (kt_code_dict_new _ ⟨rfl,rfl⟩) ?_;rintro obj br ⟨rfl,rfl⟩;have kR:(s.heap.push {cls:=.type "dict",data:=.dict #[]}).DictOf (bA prog w) s.heap.objs.size []:=Heap.DictOf.new s.heap;obtain⟨o,m,ho,hc,Y8,tN⟩:=hl;have UX:(s.heap.push {cls:=.type "dict",data:=.dict #[]}).get? l=some o:=cI _ ho;have hT:Shared.TypeIs {s with heap:=s.heap.push {cls:=.type "dict",data:=.dict #[]}} (.ref l) "list" := ⟨o,UX,hc⟩;have gh:=bP ho;refine⟨kR.typeIs,F.args_dict_init_2 _ _,?_⟩;unfold Builtin.«dict.__init__»;refine aj ?_;unfold Builtin.Dict.selfAndRest;refine aj (wpAny_notOrdered_dict kR.typeIs ?_);show wpAny _ _ (pure (s.heap.objs.size,[Value.ref l])) _ _ _;refine aO ?_;show wpAny _ _ (Builtin.Dict.updateFrom "dict.__init__" s.heap.objs.size (.ref l) [] .none) _ _ _;unfold Builtin.Dict.updateFrom;refine aj (Bd hT ?_);rw[aF ⋯];refine aj (jg (s:={s with heap:=s.heap.push {cls:=.type "dict",data:=.dict #[]}}) UX hc tN Y8 (by simp[hA]) λh1 Y9 k1=>?_);rw[aF (show(none:Option Value).isNone=true from rfl)];have BL:h1.get? l=some o:=k1 _ _ UX
 have hle:s.heap.objs.size<h1.objs.size:=by
  obtain⟨o',es,ep,he,_⟩:=kR;exact bP (k1 _ _ he)
 refine aj (vC (aj (wpAny_pyIter_list (s:={s with heap:=h1,toks:=Y9}) ⟨o,BL,hc,m,tN⟩ ?_)));have UY:=bP BL;have B7:l≠h1.objs.size:=eK UY;have WW:=Walks.list (prog:=prog) (w:=w) (A:=A.in1.in1) (by simp[hA]) h1.objs.size l B7 aA.toArray;simp only[df,List.getElem?_toArray]at WW;refine aO ⟨plainId_quiet eF _,?_⟩;have kp:∀b u,s.heap.get? b=some u->(h1.push {cls:=.type "list_iterator",data:=.fields #[.ref l,.int 0 0]}).get? b=some u:=λb u e=>cI _ (k1 _ _ (cI _ e));refine F0 WW s.heap.objs.size ?_ hn kv s.heap ?_ (aA.length-0) 0 _ _ _ rfl (mL _) ⟨⟨_,gX _ rfl,rfl,rfl⟩,⟨o,cI _ BL,hc,m,tN⟩⟩ (λb o' _ _ e=>kp b o' e) ?_ ?_
 ·simp only[bT,List.not_mem_nil,fb,not_or];exact⟨eK hle,λz=>absurd gh (by rw[z];exact jF _)⟩
 ·intro i v hv;obtain⟨a,uk,e,hk,ht⟩:=Kx i v hv;have NI:=ht.lt;refine⟨a,uk,e,?_,eK NI,hk,ht⟩;simp only[bT,List.not_mem_nil,fb];exact eK (Bc NI hle)
 ·obtain⟨o',es,ep,he,eA⟩:=kR;exact⟨o',es,ep,cI _ (k1 _ _ he),eA⟩
 ·intro h' tk hk hd;refine⟨rfl,h h' tk (λb u e=>?_) hd⟩;have hb:=bP e;exact hk b u (by simp only[bT,List.not_mem_nil,fb];exact eK (Bc hb hle)) (eK hb) (kp b u e)
end
end L2
end
section
namespace L2
open PySem PySem.Spec PyProof.Rows
end L2
end
section
namespace L2
open PySem PySem.Spec PyProof.Rows
theorem zG(a b:Int):Builtin.Range.rangeSize a b (-1)=if b<a then a-b else 0:=by
 unfold Builtin.Range.rangeSize;rw[aP (by decide),show -(-1:Int)=1 from rfl,Int.ediv_one];by_cases h:b<a
 ·rw[aF h,aF h];omega
 ·rw[aP h,aP h]
theorem small_down{a b:Int}(h1:-(2 ^ 62)<=a)(h2:a<2 ^ 62)(h3:-(2 ^ 62)<=b)(h4:b<2 ^ 62):Builtin.Range.small a b (-1)=true:=by
 unfold Builtin.Range.small;rw[zG];simp only[Builtin.Range.rangeFitsLong,aR,yZ,qj,iI,show ¬(-1:Int)>0 by decide,oO];split<;>omega
end L2
end
section
namespace L2
open PySem PySem.Spec PyProof.Rows
section
variable {X:Cx}
theorem B9:iO X (compareOp .Is) (λx y H Q=>∃b c,x=.bl b/\y=.bl c/\Q (.bl (b==c)) H):=by
 intro ae s σ H x y v u Q I rx ry h;obtain⟨b,c,rfl,rfl,q⟩:=h;cases rx;cases ry;refine wpAny_is_plain rfl (mQ I q ?_);cases b<;>cases c<;>rfl
theorem xO:iO X (compareOp .IsNot) (λx y H Q=>∃b c,x=.bl b/\y=.bl c/\Q (.bl (!(b==c))) H):=by
 intro ae s σ H x y v u Q I rx ry h;obtain⟨b,c,rfl,rfl,q⟩:=h;cases rx;cases ry;refine wpAny_isNot_plain rfl (mQ I q ?_);cases b<;>cases c<;>rfl
end
end L2
end
section
namespace L2
open PySem PySem.Spec PyProof.Rows
end L2
end
section
namespace L2
open PySem PySem.Spec PyProof.Rows
end L2
end
section
namespace L2
open PySem PySem.Spec PyProof.Rows
section
variable {X:Cx} {tg:Expr}
noncomputable def insI(i:Int):List Int->List Int
 | []=>[i]
 | j::js=>if i<=j then i::j::js else j::insI i js
def PC:List Int->List Int
 | []=>[]
 | i::is=>insI i (PC is)
theorem B_{i:Int}:∀{is:List Int},(insI i is).Perm (i::is)
 | []=>List.Perm.refl _
 | j::js=>by
  unfold insI;split
  ·exact List.Perm.refl _
  ·exact((B_ (i:=i) (is:=js)).cons j).trans (List.Perm.swap i j js)
end
end L2
end
section
namespace L2
open PySem PySem.Spec PyProof.Rows
def Av(xs:Array Nat):Prop:=xs.toList.Pairwise (· < ·)
structure Tb (t:SetTable):Prop where
 Y_:Av t.place
 UZ:t.dummies=#[]
theorem Av.lt{xs:Array Nat}(h:Av xs){i j x y:Nat}(hi:xs[i]?=some x)(hj:xs[j]?=some y)(l:i<j):x<y:=by
 have a:xs.toList[i]?=some x:=by rw[EE];exact hi
 have b:xs.toList[j]?=some y:=by rw[EE];exact hj
 obtain⟨h1,e1⟩:=bG.mp a;obtain⟨h2,e2⟩:=bG.mp b;rw[<- e1,<- e2];exact Jh.mp h i j h1 h2 l
theorem m_{xs:Array Nat}(r:Av xs)(j:Nat):∀(f lo hi:Nat),hi-lo<=f->lo<=hi->hi<=xs.size->(∀i x,i<lo->xs[i]?=some x->x<j)->(∀i x,hi<=i->xs[i]?=some x->j<=x)->(SetTable.below.go xs j f lo hi<=xs.size/\(∀i x,i<SetTable.below.go xs j f lo hi->xs[i]?=some x->x<j)/\∀i x,SetTable.below.go xs j f lo hi<=i->xs[i]?=some x->j<=x)
 | 0,lo,hi,hf,hl,hs,a,b=>by
  have:lo=hi:=∅;subst this;exact⟨hs,a,b⟩
 | f+1,lo,hi,hf,hl,hs,a,b=>by
  unfold SetTable.below.go;split
  ·rename_i lt
   dsimp only;have hm:(lo+hi) / 2<xs.size:=∅;have hx:xs[(lo+hi) / 2]?=some xs[(lo+hi) / 2]:=Array.getElem?_eq_getElem hm;have hd:xs.getD ((lo+hi) / 2) j=xs[(lo+hi) / 2]:=by simp[Array.getD,hm]
   by_cases c:xs.getD ((lo+hi) / 2) j<j
   ·simp only[aF c];rw[hd]at c;refine m_ r j f ((lo+hi) / 2+1) hi ∅ ∅ hs (λi x h e=>?_) b;rcases Be i ((lo+hi) / 2)with q | q
    ·exact Bc (r.lt e hx q) c
    ·have:i=(lo+hi) / 2:=∅;subst this;rw[hx]at e;cases e;exact c
   ·simp only[aP c];rw[hd]at c;refine m_ r j f lo ((lo+hi) / 2) ∅ ∅ ∅ a λi x h e=>?_;rcases Be ((lo+hi) / 2) i with q | q
    ·exact kJ (Nat.lt_of_le_of_lt (sS.mp c) (r.lt hx e q))
    ·have:i=(lo+hi) / 2:=∅;subst this;rw[hx]at e;cases e;exact sS.mp c
  ·rename_i lt
   have:lo=hi:=∅;subst this;exact⟨hs,a,b⟩
theorem Ca{xs:Array Nat}(r:Av xs)(j:Nat):SetTable.below xs j<=xs.size/\(∀i x,i<SetTable.below xs j->xs[i]?=some x->x<j)/\∀i x,SetTable.below xs j<=i->xs[i]?=some x->j<=x :=
 m_ r j xs.size 0 xs.size ∅ (mL _) (aE _) (λi x h=>absurd h (Nat.not_lt_zero _)) λi x h e=>absurd (yN.mp e).1 ∅
theorem Av.insert{xs:Array Nat}(r:Av xs){j:Nat}(n:xs[SetTable.below xs j]?≠some j):Av (SetTable.insertAt xs (SetTable.below xs j) j):=by
 obtain⟨h1,h2,h3⟩:=Ca r j;unfold Av;rw[SetTable.toList_insertAt]
 have ta:∀x∈xs.toList.take (SetTable.below xs j),x<j:=λx hx=>by
  obtain⟨i,hi,e⟩:=EI.mp hx;rw[dg]at hi;rw[List.getElem_take]at e;exact h2 i x ∅ (by rw[<- EE,bZ ∅,e])
 have tb:∀x∈xs.toList.drop (SetTable.below xs j),j<x:=λx hx=>by
  obtain⟨i,hi,e⟩:=EI.mp hx;rw[gZ]at hi;rw[List.getElem_drop]at e;have ex:xs[SetTable.below xs j+i]?=some x:=by rw[<- EE,bZ ∅,e]
  have le:=h3 _ x (Nat.le_add_right _ _) ex;rcases Be j x with q | q
  ·exact q
  ·have:x=j:=∅;subst this
   cases i with
   | zero=>exact absurd ex n
   | succ i =>
    have hb:SetTable.below xs x<xs.size:=by have:=(yN.mp ex).1;omega
    have eb:=Array.getElem?_eq_getElem hb;exact absurd (r.lt eb ex ∅) (by have:=h3 _ _ (aE _) eb;omega)
 refine List.pairwise_append.mpr ⟨List.Pairwise.sublist (List.take_sublist _ _) r,AK.mpr ⟨tb,List.Pairwise.sublist (List.drop_sublist _ _) r⟩,λa ha b hb=>?_⟩;rcases bT.mp hb with rfl | hb
 ·exact ta a ha
 ·exact Bc (ta a ha) (tb b hb)
theorem Tb.slot{t:SetTable}(h:Tb t){j:Nat}:t.slot j=.empty/\t.place[SetTable.below t.place j]?≠some j\/∃i,t.slot j=.live i:=by
 have hz:SetTable.has t.dummies j=false:=by
  rw[h.UZ];unfold SetTable.has;simp
 unfold SetTable.slot;dsimp only;split
 ·exact .inr ⟨_,rfl⟩
 ·rename_i c
  rw[hz];exact .inl ⟨rfl,λe=>c (by rw[e];exact mJ _)⟩
theorem tP{t:SetTable}(ti:Tb t){h:Int}{j:Nat}{d:Option Nat}:∀(f:Nat)(p:SetTable.Probe),p.dummy=none->SetTable.probe.go t (λ_=>h+1) h f p=some (.empty j d)->d=none/\t.place[SetTable.below t.place j]?≠some j
 | 0,p,hp,e=>by unfold SetTable.probe.go at e;cases e
 | f+1,p,hp,e=>by
  unfold SetTable.probe.go at e
  have Za:(t.advance p).dummy=none:=by
   unfold SetTable.advance;split
   ·exact hp
   ·exact hp
  rcases ti.slot (j:=p.j)with⟨z,q⟩|⟨i,z⟩
  ·rw[z]at e;dsimp only at e;cases e;exact⟨hp,q⟩
  ·rw[z]at e;dsimp only at e;have hb:(h+1==h)=false:=by rw[oJ];omega
   rw[hb]at e;exact tP ti f _ Za e
theorem Tb.free{t:SetTable}(ti:Tb t){h:Int}{sl:Nat}{b:Bool}(e:t.freeSlot h=some (sl,b)):t.place[SetTable.below t.place sl]?≠some sl:=by
 unfold SetTable.freeSlot at e;split at e
 ·rename_i j d q
  obtain⟨rfl,n⟩:=tP ti _ _ rfl q;cases e;exact n
 ·cases e
theorem zH(n:Nat):Av (Array.range n):=by
 unfold Av;rw[Array.toList_range];exact List.pairwise_lt_range
theorem jR(t:SetTable)(n:Nat):Tb (t.standIn n):=⟨zH n,rfl⟩
theorem Ky{t:SetTable}(ti:Tb t)(es:Array (Int×Value))(h:Int)(x:Value):Tb (layNew t es h x).2.1/\(layNew t es h x).2.1.led=t.led:=by
 unfold layNew;split
 ·rename_i sl b e
  dsimp only;have hz:SetTable.has t.dummies sl=false:=by rw[ti.UZ];unfold SetTable.has;simp
  have tp:Tb (t.put sl).1/\(t.put sl).1.led=t.led:=by
   unfold SetTable.put;dsimp only;refine⟨⟨ti.Y_.insert (ti.free e),?_⟩,rfl⟩;dsimp only;rw[hz];exact ti.UZ
  unfold SetTable.orStandIn;split
  ·exact tp
  ·exact⟨jR _ _,tp.2⟩
 ·exact⟨jR _ _,rfl⟩
theorem Cb(t:SetTable)(es:Array (Int×Value))(n:Nat):Tb (relayAll t es n).2.1/\(relayAll t es n).2.1.led=t.led:=by
 unfold relayAll;split
 ·rename_i t' order e
  dsimp only;split
  ·unfold SetTable.relaid SetTable.laid at e
   cases q:SetTable.layClean (SetTable.sizeAbove n-1) (es.map (·.1))with
   | none=>rw[q]at e;cases e
   | some ow =>
    rw[q]at e;cases e;refine⟨⟨?_,rfl⟩,rfl⟩;unfold Av;dsimp only;rw[List.map_filterMap];refine List.Pairwise.filterMap _ (λa a' lt b hb b' sy=>?_) List.pairwise_lt_range
    cases qa:ow.getD a none with
    | none=>rw[qa]at hb;cases hb
    | some _ =>
     cases qb:ow.getD a' none with
     | none=>rw[qb]at sy;cases sy
     | some _ =>
      rw[qa]at hb;rw[qb]at sy;cases hb;cases sy;exact lt
  ·exact⟨jR _ _,rfl⟩
 ·exact⟨jR _ _,rfl⟩
noncomputable def lF(prog:Program)(w:World)(h:Heap)(a:Addr)(led:Bool)(L:List Int):Prop :=
 ∃o es ep t,h.get? a=some o/\o.ExactSet/\o.data=.set es ep t/\ElemsOf (intKind prog w) es.toList/\(∀k,k∈L↔∃e∈es.toList,(intKind prog w).is k e.2=true)/\es.size<scanBound/\t.fits es.size=true/\es.size=L.length/\Tb t/\t.led=led
noncomputable def Kz(L:List Int)(k:Int):List Int:=if k∈L then L else L++[k]
section
variable {prog:Program} {w:World} {A:Around} {E:Value->Shared->Prop} {s:Shared} {a:Addr} {led:Bool} {L:List Int}
theorem xP{h:Heap}{o:Obj}{es gR:Array (Int×Value)}{ep:Nat}{t t':SetTable}(ho:h.get? a=some o)(KA:o.ExactSet)(hd:o.data=.set es ep t)(x1:ElemsOf (intKind prog w) gR.toList)(x2:∀k,k∈L↔∃e∈gR.toList,(intKind prog w).is k e.2=true)(x3:gR.size<scanBound)(x4:t'.fits gR.size=true)(x5:gR.size=L.length)(x6:Tb t')(x7:t'.led=led):∃o',(h.update a (Obj.putSet gR t')).get? a=some o'/\o'.ExactSet/\o'.data=.set gR (ep+1) t'/\lF prog w (h.update a (Obj.putSet gR t')) a led L:=by
 have hg:=yP (Obj.putSet gR t') ho (by rw[putSet_of gR t' hd];rfl);rw[putSet_of gR t' hd]at hg;exact⟨_,hg,KA,rfl,_,gR,ep+1,t',hg,KA,rfl,x1,x2,x3,x4,x5,x6,x7⟩
theorem tQ{g:Bool->Sem Unit}(hg:∀(b:Bool)(br:Shared)(Q:Unit->Shared->Prop),Q () br->wpAny (model prog w) A (g b) Q E br){o:Obj}{es gR:Array (Int×Value)}{ep:Nat}{t t':SetTable}{wd:Bool}{R:Option Bool->Shared->Prop}(ho:s.heap.get? a=some o)(KA:o.ExactSet)(hd:o.data=.set es ep t)(x1:ElemsOf (intKind prog w) gR.toList)(x2:∀k,k∈L↔∃e∈gR.toList,(intKind prog w).is k e.2=true)(x3:gR.size<scanBound)(x4:t'.fits gR.size=true)(x5:gR.size=L.length)(x6:Tb t')(x7:t'.led=led)(h:∀h',Heap.SameBut a s.heap h'->lF prog w h' a led L->R (some true) {s with heap:=h'}):wpAny (model prog w) A (storeSet a gR t' >>= λ_=>if (!wd&&t'.tooFull)=true then (g (relayAll t' gR (SetTable.grown gR.size)).2.2 >>= λ_=>storeSet a (relayAll t' gR (SetTable.grown gR.size)).1 (relayAll t' gR (SetTable.grown gR.size)).2.1 >>= λ_=>pure (some true)) else pure (some true)) R E s:=by
 obtain⟨o1,e1,z1,d1,i1⟩:=xP (prog:=prog) (w:=w) ho KA hd x1 x2 x3 x4 x5 x6 x7;refine aj (wpAny_storeSet_of ho hd ?_ (fits_of_scanBound x3));have b1:=EM s.heap a (Obj.putSet gR t');split
 ·have p:=relayAll_perm t' gR (SetTable.grown gR.size);have sz:(relayAll t' gR (SetTable.grown gR.size)).1.size=gR.size:=by rw[<- vt,p.length_eq,vt]
  have ti:=Cb t' gR (SetTable.grown gR.size);obtain⟨_,_,_,_,i2⟩:=xP (prog:=prog) (w:=w) (L:=L) (led:=led) e1 z1 d1 (x1.perm p) (λk=>(x2 k).trans ⟨λ⟨e,he,q⟩=>⟨e,p.mem_iff.mpr he,q⟩,λ⟨e,he,q⟩=>⟨e,p.mem_iff.mp he,q⟩⟩) (by rw[sz];exact x3) (relayAll_fits _ _ _) (by rw[sz];exact x5) ti.1 (ti.2.trans x7);refine aj (hg _ _ _ (aj (wpAny_storeSet_of e1 d1 (aO (h _ (b1.trans (EM _ a _)) i2)) (fits_of_scanBound (by rw[sz];exact x3)))))
 ·exact aO (h _ b1 i1)
theorem Sj{k:Int}{u:Tok}{Q:Bool->Shared->Prop}(hS:lF prog w s.heap a led L)(hr:L.length+1<scanBound)(h:∀b h',Heap.SameBut a s.heap h'->lF prog w h' a led (Kz L k)->Q b {s with heap:=h'}):wpAny (model prog w) A (setAddHashed a (.int k u) ((intKind prog w).hash k)) Q E s:=by
 obtain⟨o,es,ep,t,ho,KA,hd,x1,x2,x3,x4,x5,x6,x7⟩:=id hS;have hk:(intKind prog w).is k (.int k u)=true:=intKind_is _ _ _ _;unfold setAddHashed setAddHashedIn;refine mK (aj (wpAny_setState_of ho hd x4 ?_));dsimp only;rw[byScan_of (knd:=intKind prog w) rfl x3 x1,aF rfl];unfold setAddByScan;refine aj (aj (vC (aj (wpAny_setScan_of (knd:=intKind prog w) hk ho hd x4 x1 ?_))))
 cases q:es.toList.findIdx? (λe=>(intKind prog w).is k e.2)with
 | some j =>
  obtain⟨hj,pj,_⟩:=N3.mp q;have Ny:k∈L:=(x2 k).mpr ⟨_,qk hj,pj⟩;dsimp only;refine aO (aO ?_);have:=h false s.heap (Heap.SameBut.refl a s.heap) (by unfold Kz;rw[aF Ny];exact hS);exact this
 | none =>
  have U0:k∉L:=λz=>by
   obtain⟨e,he,p⟩:=(x2 k).mp z;have:=List.findIdx?_eq_none_iff.mp q e he;rw[p]at this;cases this
  dsimp only;have pm:=layNew_perm t es ((intKind prog w).hash k) (.int k u);have ft:=layNew_fits t es ((intKind prog w).hash k) (.int k u);have ti:=Ky x6 es ((intKind prog w).hash k) (.int k u);generalize layNew t es ((intKind prog w).hash k) (.int k u)=N at pm ft ti⊢;obtain⟨PD,t1,wd,gv⟩:=N;dsimp only at pm ft ti⊢;rw[Array.toList_push]at pm;have y1:ElemsOf (intKind prog w) PD.toList:=(x1.push hk rfl).perm pm;have sz:PD.size=es.size+1:=by rw[<- vt,pm.length_eq,dz,vt];rfl
  have y2:∀k',k'∈L++[k]↔∃e∈PD.toList,(intKind prog w).is k' e.2=true:=λk'=>by
   rw[eV,Jt,x2 k'];constructor
   ·rintro(⟨e,he,p⟩ | rfl)
    ·exact⟨e,pm.mem_iff.mpr (EH _ he),p⟩
    ·exact⟨_,pm.mem_iff.mpr (lO _ (Jt.mpr rfl)),hk⟩
   ·rintro⟨e,he,p⟩;rcases eV.mp (pm.mem_iff.mp he)with he | he
    ·exact .inl ⟨e,he,p⟩
    ·rw[Jt]at he;subst he;exact .inr ((intKind prog w).inj _ k' k p hk)
  have fin:∀h',Heap.SameBut a s.heap h'->lF prog w h' a led (L++[k])->Q true {s with heap:=h'}:=λh' b i=>h true h' b (by unfold Kz;rw[aP U0];exact i)
  have gw:∀(b:Bool)(br:Shared)(Q':Unit->Shared->Prop),Q' () br->wpAny (model prog w) A (match b with | true=>rule "set.scan.the-table-gave-way" | false=>pure ()) Q' E br:=λb br Q' z=>by
   cases b
   ·exact aO z
   ·exact vC z
  have y5:PD.size=(L++[k]).length:=by rw[sz,x5,dz];rfl
  refine aj (gw _ _ _ ?_);split
  ·rw[hashByValue_scannable 8 (x:=.int k u) rfl];refine aj (aO ?_);show wpAny _ _ (storeSet a PD t1 >>= _) _ _ _;exact tQ (L:=L++[k]) (led:=led) (λb br Q' z=>by cases b<;>first | exact aO z | exact vC z) ho KA hd y1 y2 ∅ ft y5 ti.1 (ti.2.trans x7) λh' b i=>aO (fin h' b i)
  ·refine aj (aO ?_);exact tQ (L:=L++[k]) (led:=led) (λb br Q' z=>by cases b<;>first | exact aO z | exact vC z) ho KA hd y1 y2 ∅ ft y5 ti.1 (ti.2.trans x7) λh' b i=>aO (fin h' b i)
end
end L2
end
section
namespace L2
open PySem PySem.Spec PyProof.Rows
theorem lF.keep{prog:Program}{w:World}{h h':Heap}{a:Addr}{led:Bool}{L:List Int}(x:lF prog w h a led L)(k:∀o,h.get? a=some o->h'.get? a=some o):lF prog w h' a led L:=by
 obtain⟨o,es,ep,t,ho,r⟩:=x;exact⟨o,es,ep,t,k o ho,r⟩
end L2
end
section
namespace L2
open PySem PySem.Spec PyProof.Rows
end L2
end
section
namespace L2
open PySem PySem.Spec PyProof.Rows
end L2
end
section
namespace L2
open PySem PySem.Spec PyProof.Rows
end L2
end
section
namespace L2
open PySem PySem.Spec PyProof.Rows
open Builtin Builtin.ObjectAttr
structure fx (h:Heap) (C D:Addr) (mN mD:Str->Option Value):Prop where
 cls:∃nm q N bs sn sub ab pH dd k0 k1 k2 k3 k5,h.get? C=some (excClassObj nm q C N bs (.ref D::VE) true sn sub ab pH dd k0 k1 k2 k3 k5 "ValueError.__new__")/\h.Ns N mN
 par:∃c0 dd cd sl,h.get? D=some {cls:=c0,dict:=dd,data:=.cls cd,slots:=sl}/\h.Ns cd.ns mD
 noi:mD "__init__" = none
theorem fx.keeps{h h':Heap}{C D:Addr}{mN mD:Str->Option Value}(X:fx h C D mN mD)(k:∀b o,h.get? b=some o->h'.get? b=some o):fx h' C D mN mD:=by
 obtain⟨⟨nm,q,N,bs,sn,sub,ab,pH,dd,k0,k1,k2,k3,k5,hC,hN⟩,⟨c0,de,cd,sl,hD,hM⟩,n⟩:=X;exact⟨⟨nm,q,N,bs,sn,sub,ab,pH,dd,k0,k1,k2,k3,k5,k _ _ hC,hN.keeps k⟩,⟨c0,de,cd,sl,k _ _ hD,hM.keeps k⟩,n⟩
theorem fx.tail{h:Heap}{C D:Addr}{mN mD:Str->Option Value}(X:fx h C D mN mD):OwnTail h VE (.ref D::VE):=by
 obtain⟨_,⟨c0,de,cd,sl,hD,hM⟩,n⟩:=X;exact .own hD hM n .base
section
variable {M:Model} {prog:Program} {w:World} {A:Around} {E:Value->Shared->Prop} {h:Heap} {g:Array GenState} {d:Drawn} {t:Nat} {os:OsState} {C D:Addr} {mN mD mA:Str->Option Value}
theorem gC{name:Str}{y:Option Value}{Q:Option Value->Shared->Prop}(X:fx h C D mN mD) (hB:typeLookup (.type "ValueError") name=pure y) (hq:Q ((mN name).or ((mD name).or y)) ⟨h,g,d,t,os⟩):wpAny M A (typeLookup (.ref C) name) Q E ⟨h,g,d,t,os⟩:=by
 obtain⟨⟨nm,q,N,bs,sn,sub,ab,pH,dd,k0,k1,k2,k3,k5,hC,hN⟩,⟨c0,de,cd,sl,hD,hM⟩,n⟩:=X;have hV:lookupAlong VE name=pure y:=by rw[typeLookup_eq,AH.mroIs]at hB;exact hB
 rw[typeLookup_eq];refine aj (wpAny_mroOf_exc hC ?_);rw[lookupAlong_cons];refine aj (wpAny_classOwn_exc hC hN ?_)
 cases e1:mN name with
 | some v=>rw[e1]at hq;exact aO hq
 | none =>
  rw[e1]at hq;show wpAny M A (lookupAlong (.ref D::VE) name) Q E _;rw[lookupAlong_cons];refine aj (wpAny_classOwn_cls hD hM ?_)
  cases e2:mD name with
  | some v=>rw[e2]at hq;exact aO hq
  | none=>rw[e2]at hq;show wpAny M A (lookupAlong VE name) Q E _;rw[hV];exact aO hq
theorem pI{b:Value}{Q:Bool->Shared->Prop}(X:fx h C D mN mD)(hq:Q ((Value.ref C::.ref D::VE).contains b) ⟨h,g,d,t,os⟩):wpAny M A (isSubtype (.ref C) b) Q E ⟨h,g,d,t,os⟩:=by
 obtain⟨⟨nm,q,N,bs,sn,sub,ab,pH,dd,k0,k1,k2,k3,k5,hC,hN⟩,_⟩:=X;exact wpAny_isSubtype_exc hC hq
theorem tR{vs:List Value}{fI:Addr}{oI:Obj}{Q:Fin->Shared->Prop}(X:fx h C D mN mD) (hi:mN "__init__" = some (.ref fI)) (hf:h.get? fI=some oI) (hc:oI.cls=.type "function") (hq:∀h' e,Heap.MadeExcOf h h' e (.ref C) vs->h.objs.size<=e->wpAny (model prog w) A (call (.ref fI) (.ref e::vs)) (λr s'=>r=.none/\Q (.done (.ret (.ref e))) s') E ⟨h',g,d,t,os⟩) (hl:vs.length<=sizeLine):wpAny (model prog w) A (Builtin.«type.__call__» ⟨.ref C::vs,[]⟩) Q E ⟨h,g,d,t,os⟩:=by
 have X0:=X;have T:=X.tail;obtain⟨⟨nm,q,N,bs,sn,sub,ab,pH,dd,k0,k1,k2,k3,k5,hC,hN⟩,_,_⟩:=X
 repeat (first | with_reducible refine gY hC ?_ | with_reducible refine wpAny_madeBy_exc hC ?_ | wp_step)
 refine codeAny_call_builtin_code (Code.quiet_builtin _ AH.quiet) (wpAny_check_new_subT AH T hC ?_);refine codeAny_exc_new_subT AH T hC ?_ hl;show wpAny _ _ _ _ _ _;generalize ht:({cls:=.type "tuple",data:=.seq vs.toArray}:Obj)=ot;generalize hx:({cls:=.ref C,data:=.fields #[.ref h.objs.size,.none,.none,.none,.bool false,.none]}:Obj)=ox;have kp:∀b o,h.get? b=some o->((h.push ot).push ox).get? b=some o:=λb o z=>cI _ (cI _ z);have ge:((h.push ot).push ox).get? (h.objs.size+1)=some ox:=by subst ht hx;heap_get
 have gt:((h.push ot).push ox).get? h.objs.size=some ot:=cI _ (Heap.get?_push_at rfl (by subst ht;rfl));have X1:=X0.keeps kp;have cc:ox.cls=.ref C:=by subst hx;rfl
 have hm:Heap.MadeExcOf h ((h.push ot).push ox) (h.objs.size+1) (.ref C) vs:=⟨kp,Js (y6 _),h.objs.size,by rw[ge];subst hx;rfl,Js (aE _),by rw[gt];subst ht;rfl⟩;have ct:(Value.ref C::.ref D::VE).contains (.ref C)=true:=by simp
 unfold isInstance
 repeat (first | (with_reducible refine gY ge ?_;rw[cc]) | (with_reducible refine pI X1 ?_;rw[ct]) | wp_step)
 show wpAny _ _ (typeLookup (.ref C) _) _ _ _;refine gC X1 AH.init.lookup ?_;rw[hi];refine mK (aj ?_);unfold bindSpecial;refine aj (Bd (T := "function") ⟨_,kp _ _ hf,hc⟩ ?_);rw[aF (by decide)];refine aO (aj (jb (hq _ _ hm (y6 _)) (λr s' hr=>?_) λ_ _ z=>z));obtain⟨rfl,hQ⟩:=hr
 wp_walk
 exact hQ
theorem Cc{vs:List Value}{fI:Addr}{oI:Obj}{Q:Value->Shared->Prop}(X:fx h C D mN mD) (hi:mN "__init__" = some (.ref fI)) (hf:h.get? fI=some oI) (hc:oI.cls=.type "function") (hq:∀h' e,Heap.MadeExcOf h h' e (.ref C) vs->h.objs.size<=e->wpAny (model prog w) (A.under (.builtin "type.__call__" ⟨.ref C::vs,[]⟩)) (call (.ref fI) (.ref e::vs)) (λr s'=>r=.none/\Q (.ref e) s') E ⟨h',g,d,t,os⟩) (hl:vs.length<=sizeLine):wpAny (model prog w) A (call (.ref C) vs) Q E ⟨h,g,d,t,os⟩:=by
 have X0:=X;obtain⟨⟨nm,q,N,bs,sn,sub,ab,pH,dd,k0,k1,k2,k3,k5,hC,hN⟩,_,_⟩:=X;have f1:=tc_lookup;have f2:=tc_bind (.ref C);have hT:(⟨h,g,d,t,os⟩:Shared).TypeIs (.ref C) "type" := ⟨_,hC,rfl⟩;refine wpAny_call (codeAny_of_tree ?_);show wpAny _ _ (callAny (.ref C) _) _ _ _
 repeat (any_goals (first | assumption | with_reducible refine gY hC ?_ | wp_step))
 refine⟨rfl,codeAny_call_builtin_at (Code.quiet_builtin _ ⋯) entry_typeCall (wpAny_check_type_call_sub hC (tR X0 hi hf hc (λh' e hm l=>hq h' e hm l) hl))⟩
end
end L2
end
section
namespace L2
open PySem PySem.Spec PyProof.Rows
open Builtin Builtin.ObjectAttr
section
variable {M:Model} {prog:Program} {w:World} {A:Around} {E:Value->Shared->Prop} {h:Heap} {g:Array GenState} {d:Drawn} {t:Nat} {os:OsState} {C D:Addr} {mN mD mA:Str->Option Value} {env:Env}
theorem tS{s:Shared}{x:Sem Value}{Q:Flow->Shared->Prop}(hh:A.handled=none)(hx:wpAny M A x (λv s1=>∃e oe vs,v=.ref e/\(∃mN mD,fx s1.heap C D mN mD)/\s1.heap.get? e=some oe/\oe.cls=.ref C/\oe.data=.fields vs/\vs[1]?=some .none/\E (.ref e) s1) E s):wpAny M A (raiseStmt env (some x) none) Q E s:=by
 have ct:(Value.ref C::.ref D::VE).contains (.type "BaseException")=true:=by simp
 unfold raiseStmt;refine aj (bX hx λv s1 h1=>?_);obtain⟨e,oe,vs,rfl,⟨mN,mD,X⟩,he,hc,hd,h1,hE⟩:=h1;have X0:=X;obtain⟨⟨nm,q,N,bs,sn,sub,ab,pH,dd,k0,k1,k2,k3,k5,hC,hN⟩,_,_⟩:=X;obtain⟨hp,g,d,tk,os⟩:=s1;have nt:oe.data=.fields vs:=hd
 repeat (first | (with_reducible refine gY he ?_;rw[hc]) | with_reducible refine gY hC ?_ | (with_reducible refine pI X0 ?_;rw[ct]) | with_reducible refine fL he hd h1 ?_ | wp_step)
 exact wpAny_raiseNew_none hh hE
theorem F2 {s : Shared} {x : Str} {np cS pos : Pos} {args : List Expr} {Q : Flow -> Shared -> Prop} (hh : A.handled = none) (hp : (backTo cS (starEach args env)).any (·.1) = false)
    (hx:wpAny (model prog w) A (eval (.Name x np) env) (λf s1=>f=.ref C/\wpAny (model prog w) A (evalArgs (.ref C) true (backTo cS (starEach args env)) []) (λa s2=>a.kw=[]/\(∃mN mD,fx s2.heap C D mN mD) /\
      wpAny (model prog w) A (call (.ref C) a.pos) (λv s3=>∃e oe vs,v=.ref e/\(∃mN mD,fx s3.heap C D mN mD)/\s3.heap.get? e=some oe/\oe.cls=.ref C/\oe.data=.fields vs/\vs[1]?=some .none/\E (.ref e) s3) E s2) E s1) E s) :
    wpAny (model prog w) A (exec (.Raise (some (.Call (.Name x np) args [] cS)) none pos) env) Q E s:=by
  rw[arm_exec_Raise];refine aj (y3 (tS (C:=C) (D:=D) hh ?_));refine aj (bX (wpAny_Call_ofName (bX hx λf s1 h1=>?_)) λv s3 h3=>aj (y3 (aO h3)));obtain⟨rfl,h1⟩:=h1;unfold callWith;refine aj (mK (bX h1 λa s2 h2=>aj (y3 ?_)));obtain⟨ap,ak⟩:=a;obtain⟨hk,⟨mN,mD,X⟩,h2⟩:=h2;obtain rfl:ak=[]:=hk;obtain⟨⟨nm,q,N,bs,sn,sub,ab,pH,dd,k0,k1,k2,k3,k5,hC,hN⟩,_,_⟩:=X;obtain⟨hp',g,d,tk,os⟩:=s2;simp only[hp];refine aj (wpAny_keeperOf_exc hC ?_);exact aj (bX h2 λv s3 h3=>aj (mK (wpAny_point (aO h3))))
theorem oS{x:Addr}{name:Str}{v:Value}{tk:Tok}{o:Obj}{vs:Array Value}{Q:Fin->Shared->Prop}(X:fx h C D mN mD)(hn:mN name=none)(hm:mD name=none) (hB:typeLookup (.type "ValueError") name=pure none) (hx:h.get? x=some o) (hc:o.cls=.ref C) (hd:o.data=.fields vs) (hz:o.dict=none) (hq:∀h' Au dx,h.objs.size<=dx->h'.get? x=some {o with dict:=some dx}->(∀b u,b≠x->h.get? b=some u->h'.get? b=some u)->h'.Ns1 dx (λy=>if y=name then some v else none)->Q (.done (.ret .none)) ⟨h',g,d,Au,os⟩):wpAny (model prog w) A (Builtin.«object.__setattr__» ⟨[.ref x,.str name tk,v],[]⟩) Q E ⟨h,g,d,t,os⟩:=by
 have hp:refuseLoop (.ref x) "__setattr__" (.ref C::.ref D::VE)=pure ():=by rw[refuseLoop_ref,refuseLoop_ref];exact sN.passes _
 have X0:=X;obtain⟨⟨nm,q,N,bs,sn,sub,ab,pH,dd,k0,k1,k2,k3,k5,hC,hN⟩,_,_⟩:=X;unfold Builtin.«object.__setattr__»
 repeat (first | rw[refuse_eq] | rw[hp] | (with_reducible refine gY hx ?_;rw[hc]) | with_reducible refine wpAny_mroOf_exc hC ?_ | (with_reducible refine gC X0 hB ?_;rw[hn,hm]) | wp_step)
 rw[hz,hd,aP (by simp[typeHasDict])];have WT:(h.push {cls:=.type "dict",data:=.dict #[]}).get? x=some o:=cI _ hx;have ne:x≠h.objs.size:=eK (bP hx);refine aj (wpAny_alloc' (aj (wpAny_update' WT (aO ?_))));generalize hu:((h.push {cls:=.type "dict",data:=.dict #[]}).update x λo=>{cls:=o.cls,dict:=some h.objs.size,data:=o.data,slots:=o.slots})=h1;have g1:h1.get? h.objs.size=some {cls:=.type "dict",data:=.dict #[]}:=by subst hu;exact(Heap.get?_update_ne _ _ _ _ ne.symm).trans (Heap.get?_push_at rfl rfl)
 have g2:h1.get? x=some {o with dict:=some h.objs.size}:=by
  subst hu;refine yP _ WT ?_;obtain⟨a,b,c,e⟩:=o;obtain rfl:c=.fields vs:=hd;rfl
 have g3:∀b u,b≠x->h.get? b=some u->h1.get? b=some u:=λb u nb z=>by subst hu;exact(Heap.get?_update_ne _ _ _ _ nb).trans (cI _ z)
 have nd:h1.Ns h.objs.size (λ_=>none):=⟨_,#[],_,g1,rfl,λe he=>absurd he (by simp),λ_=>rfl⟩;show wpAny _ _ (storeInDict h.objs.size (.str name tk) name v) _ _ _;unfold storeInDict newKeyGuard;refine aj (aO (aj (wpAny_nsSet1 (Heap.Ns1.of_empty nd) λh' n1 sm=>?_)));obtain⟨oD,es,ep,Zb,Zc,Zd⟩:=n1.count (Within.cons name v Within.nil);refine aj (wpAny_lookBehind Zb (by rw[Zc];exact pastItsLine_dict (bJ Zd (by rw[fJ,kI,sizeLine_eq];omega))) ?_)
 wp_walk
 exact hq h' _ h.objs.size (aE _) ((sm.2 x ne).trans g2) (λb u nb z=>(sm.2 b (eK (bP z))).trans (g3 b u nb z)) n1
theorem vU{x:Addr}{o:Obj}{nv v:Value}{Q:Unit->Shared->Prop}(X:fx h C D mN mD)(hx:h.get? x=some o)(hc:o.cls=.ref C)(hq:Q () ⟨h,g,d,t,os⟩):wpAny M A (checkBuiltinCall "object.__setattr__" ⟨[.ref x,nv,v],[]⟩) Q E ⟨h,g,d,t,os⟩:=by
 have ct:(Value.ref C::.ref D::VE).contains (.type "object")=true:=by simp
 have ha:=sN.args (.ref x) nv v;simp only[checkBuiltinCall,sN.kind,sN.split];refine aj ?_
 ·unfold isInstance
  repeat (first | (with_reducible refine gY hx ?_;rw[hc]) | (with_reducible refine pI X ?_;rw[ct]) | wp_step)
  exact hq
theorem F3{x:Addr}{name:Str}{v:Value}{o:Obj}{vs:Array Value}{Q:Unit->Shared->Prop}(X:fx h C D mN mD) (hs:mN "__setattr__" = none) (Cd:mD "__setattr__" = none) (hn:mN name=none) (hm:mD name=none) (hB:typeLookup (.type "ValueError") name=pure none) (hx:h.get? x=some o) (hc:o.cls=.ref C) (hd:o.data=.fields vs) (hz:o.dict=none) (hq:∀h' Au dx,h.objs.size<=dx->h'.get? x=some {o with dict:=some dx}->(∀b u,b≠x->h.get? b=some u->h'.get? b=some u)->h'.Ns1 dx (λy=>if y=name then some v else none)->Q () ⟨h',g,d,Au,os⟩):wpAny (model prog w) A (setAttr (.ref x) name v) Q E ⟨h,g,d,t,os⟩:=by
 have f3:=sN.slot.bind (.ref x);unfold setAttr callSpecial? specialOf
 repeat (any_goals (first | assumption | (with_reducible refine gY hx ?_;rw[hc]) | (with_reducible refine gC X sN.slot.lookup ?_;rw[hs,Cd]) | wp_step))
 refine EJ sN.slot.plain sN.entry (vU X hx hc (oS X hn hm hB hx hc hd hz λh' Au dx a b c e=>?_))
 repeat (any_goals (first | assumption | wp_step))
 exact hq h' Au dx a b c e
theorem nh{x:Addr}{o:Obj}{nv:Value}{Q:Unit->Shared->Prop}(X:fx h C D mN mD)(hx:h.get? x=some o)(hc:o.cls=.ref C)(hq:Q () ⟨h,g,d,t,os⟩):wpAny M A (checkBuiltinCall "BaseException.__getattribute__" ⟨[.ref x,nv],[]⟩) Q E ⟨h,g,d,t,os⟩:=by
 have hk:builtinKind "BaseException.__getattribute__" = some .slot:=⋯;have KC:splitId "BaseException.__getattribute__" = some ("BaseException","__getattribute__"):=⋯;have ct:(Value.ref C::.ref D::VE).contains (.type "BaseException")=true:=by simp
 have ha:=F.args_bexc_ga (.ref x) nv;simp only[checkBuiltinCall,hk,KC];refine aj ?_
 ·unfold isInstance
  repeat (first | (with_reducible refine gY hx ?_;rw[hc]) | (with_reducible refine pI X ?_;rw[ct]) | wp_step)
  exact hq
theorem qR{x dx:Addr}{name:Str}{v:Value}{tk:Tok}{o:Obj}{vs:Array Value}{Q:Fin->Shared->Prop}(X:fx h C D mN mD)(hn:mN name=none)(hm:mD name=none) (hB:typeLookup (.type "ValueError") name=pure none) (hx:h.get? x=some o) (hc:o.cls=.ref C) (hd:o.data=.fields vs) (hz:o.dict=some dx) (hA:h.Ns1 dx mA) (hv:mA name=some v) (hq:Q (.done (.ret v)) ⟨h,g,d,t,os⟩):wpAny (model prog w) A (Builtin.«object.__getattribute__» ⟨[.ref x,.str name tk],[]⟩) Q E ⟨h,g,d,t,os⟩:=by
 have X0:=X;obtain⟨⟨nm,q,N,bs,sn,sub,ab,pH,dd,k0,k1,k2,k3,k5,hC,hN⟩,_,_⟩:=X;unfold Builtin.«object.__getattribute__»
 repeat (first | (with_reducible refine gY hx ?_;rw[hc]) | (with_reducible refine gC X0 hB ?_;rw[hn,hm]) | wp_step)
 rw[hd];unfold instanceDict inDict
 repeat (first | (with_reducible refine gY hx ?_;rw[hc]) | with_reducible refine gY hC ?_ | rw[hz] | (with_reducible refine wpAny_nsGet hA.ns ?_;rw[hv]) | wp_step)
 exact hq
theorem KD{x dx:Addr}{name:Str}{v:Value}{o:Obj}{vs:Array Value}{e:Bool}{Q:Value->Shared->Prop}(X:fx h C D mN mD) (hg:mN "__getattribute__" = none) (U1:mD "__getattribute__" = none) (ha:mN "__getattr__" = none) (U2:mD "__getattr__" = none) (hn:mN name=none) (hm:mD name=none) (hB:typeLookup (.type "ValueError") name=pure none) (hx:h.get? x=some o) (hc:o.cls=.ref C) (hd:o.data=.fields vs) (hz:o.dict=some dx) (hA:h.Ns1 dx mA) (hv:mA name=some v) (hh:handedOut v=pure v) (hq:Q v ⟨h,g,d,t+1,os⟩):wpAny (model prog w) A (getAttr (.ref x) name e) Q E ⟨h,g,d,t,os⟩:=by
 have f3:=sJ.ga.bind (.ref x);have q0:(e&&onTheHeap (Value.builtin "BaseException.__getattribute__"))=false:=by cases e<;>rfl
 have q2:(Value.builtin "BaseException.__getattribute__" == Value.builtin "object.__getattribute__")=false:=⋯;have q1:(onTheHeap (Value.ref C)&&Value.builtin "BaseException.__getattribute__" == Value.builtin "object.__getattribute__")=false:=by rw[q2];rfl
 unfold getAttr getAttrBy
 repeat (any_goals (first | assumption | (with_reducible refine gY hx ?_;rw[hc]) | (with_reducible refine gC X sJ.ga.lookup ?_;rw[hg,U1]) | (with_reducible refine gC X sJ.noGetattr ?_;rw[ha,U2]) | wp_step))
 refine EJ sJ.ga.plain F.entry_bexc_ga (nh X hx hc (qR X hn hm hB hx hc hd hz hA hv ?_));show wpAny _ _ (handedOut v) _ _ _;rw[hh];exact aO hq
end
end L2
end
section
namespace L2
open PySem PySem.Spec PyProof.Rows
open Builtin Builtin.ObjectAttr
section
variable {M:Model} {prog:Program} {w:World} {A:Around} {E:Value->Shared->Prop} {h:Heap} {g:Array GenState} {d:Drawn} {t:Nat} {os:OsState} {C D x:Addr} {mN mD mA:Str->Option Value} {o:Obj} {vs:Array Value}
theorem tT:typeLookup (.type "ValueError") "__class__" = pure (some (.builtin "object.__class__")):=by rw[typeLookup_type,Jp];kernel_rfl
theorem tU{R:Result->Shared->Prop}(X:fx h C D mN mD)(hx:h.get? x=some o)(hc:o.cls=.ref C)(hq:R (.ok (.ret (.ref C))) ⟨h,g,d,t,os⟩):codeAny (model prog w) A (.call (.builtin "getset_descriptor.__get__") ⟨[.builtin "object.__class__",.ref x,.ref C],[]⟩) R ⟨h,g,d,t,os⟩:=by
 have hT:(⟨h,g,d,t,os⟩:Shared).TypeIs (.builtin "object.__class__") "getset_descriptor" := Jq;have ct:(Value.ref C::.ref D::VE).contains (.type (".".intercalate ("object.__class__".cutAt '.').dropLast))=true:=by rw[F.owner_object_class];simp
 refine EJ F.slot_gs_get.plain F.entry_gs_get (F.slot_gs_get.check _ _ _ _ _ _ _ _ hT (F.args_gs_get _ _ _) ?_)
 repeat (any_goals (first | assumption | (with_reducible refine gY hx ?_;rw[hc]) | (with_reducible refine pI X ?_;rw[ct]) | wp_step))
 refine⟨Code.quiet_builtin _ ⋯,codeAny_builtin F.entry_object_class ?_⟩
 repeat (any_goals (first | assumption | (with_reducible refine gY hx ?_;rw[hc]) | wp_step))
theorem oU{tk:Tok}{Q:Fin->Shared->Prop}(X:fx h C D mN mD) (hn:mN "__class__" = none) (hm:mD "__class__" = none) (hx:h.get? x=some o) (hc:o.cls=.ref C) (hq:Q (.done (.ret (.ref C))) ⟨h,g,d,t,os⟩):wpAny (model prog w) A (Builtin.«object.__getattribute__» ⟨[.ref x,.str "__class__" tk],[]⟩) Q E ⟨h,g,d,t,os⟩:=by
 have hT:(⟨h,g,d,t,os⟩:Shared).TypeIs (.builtin "object.__class__") "getset_descriptor" := Jq;have f5:=Jq;have f6:=F.slot_gs_get.lookup;have f7:=F.slot_gs_set.lookup
 repeat (any_goals (first | assumption | (with_reducible refine gY hx ?_;rw[hc]) | (with_reducible refine gC X tT ?_;rw[hn,hm]) | wp_step))
 refine tU X hx hc ?_
 repeat (any_goals (first | assumption | wp_step))
theorem F4{Q:Option Value->Shared->Prop}(X:fx h C D mN mD) (hg:mN "__getattribute__" = none) (U1:mD "__getattribute__" = none) (ha:mN "__getattr__" = none) (U2:mD "__getattr__" = none) (hn:mN "__class__" = none) (hm:mD "__class__" = none) (hx:h.get? x=some o) (hc:o.cls=.ref C) (hq:Q (some (.ref C)) ⟨h,g,d,t+1,os⟩):wpAny (model prog w) A (getAttr? (.ref x) "__class__") Q E ⟨h,g,d,t,os⟩:=by
 have f3:=sJ.ga.bind (.ref x);have q2:(Value.builtin "BaseException.__getattribute__" == Value.builtin "object.__getattribute__")=false:=⋯;have q1:(onTheHeap (Value.ref C)&&Value.builtin "BaseException.__getattribute__" == Value.builtin "object.__getattribute__")=false:=by rw[q2];rfl
 unfold getAttr? getAttrBy? getAttrBy
 repeat (any_goals (first | assumption | (with_reducible refine gY hx ?_;rw[hc]) | (with_reducible refine gC X sJ.ga.lookup ?_;rw[hg,U1]) | (with_reducible refine gC X sJ.noGetattr ?_;rw[ha,U2]) | wp_step))
 refine EJ sJ.ga.plain F.entry_bexc_ga (nh X hx hc (oU X hn hm hx hc ?_))
 repeat (any_goals (first | assumption | wp_step))
end
end L2
end
section
namespace L2
open PySem PySem.Spec PyProof.Rows
structure zI (h:Heap) (lo:Nat) (e:Addr) (C dx:Addr) (tr:Option Addr):Prop where
 le:lo<=e
 obj:∃oe vs,h.get? e=some oe/\oe.cls=.ref C/\oe.dict=some dx/\oe.data=.fields vs/\(match tr with
  | none=>vs[1]?=some .none
  | some T=>vs[1]?=some (.ref T)/\T≠e/\lo<=T/\∃oT ts,h.get? T=some oT/\oT.data=.fields ts/\ts[3]?=some .none)
structure tV (fr:List Addr) (e:Addr) (tr:Option Addr) (h h':Heap):Prop where
 sz:h.objs.size<=h'.objs.size
 keep:∀b o,h.get? b=some o->b≠e->tr≠some b->b∉fr->h'.get? b=some o
 slots:∀b o,h.get? b=some o->b≠e->tr≠some b->∃sl,h'.get? b=some {o with slots:=sl}
section
variable {M:Model} {A:Around} {E:Value->Shared->Prop} {s:Shared}
theorem xQ{base:Heap}{env:Env}{outer:List Env}{L e C dx:Addr}{lo:Nat}{h0:Heap}{oe:Obj}{vs:Array Value}{tr:Option Addr}{F5:Value}{hn:Bool}{Q:Unit->Shared->Prop}(B5:A.frames=some (env::outer))(hl:s.heap.FunFrames base (env::outer))(hf:env.frame=some L)(vQ:lo<=s.heap.objs.size)(le:lo<=e)(he:s.heap.get? e=some oe)(hc:oe.cls=.ref C)(hx:oe.dict=some dx)(hd:oe.data=.fields vs)(hz:1<vs.size)(k0:tV ((env::outer).filterMap (·.frame)) e tr h0 s.heap)(hq:∀h' T,zI h' lo e C dx (some T)->h0.objs.size<=T->tV ((env::outer).filterMap (·.frame)) e tr h0 h'->Q () {s with heap:=h'}):wpAny M A (do let a <- frameOf env;let pl <- entryPlaceOf L hn;let b <- EntryCells.newEntry F5 a .none (rawInt L) .none pl;setField (.ref e) 1 b) (λ_ s'=>wpAny M A (setFlight (.ref e) none) Q E s') E s:=by
 have ne:e∉(env::outer).filterMap (·.frame):=λhm=>by
  obtain⟨_,o,ho,nf⟩:=hl.mem hm;rw[he]at ho;cases ho;exact nf vs hd
 refine aj (wpAny_frameOf_fun B5 hl hf λh1 s1=>aj (wpAny_entryPlaceOf λpl hp=>?_));unfold EntryCells.newEntry newFields;refine aj (lP ?_ (hp.sizeOk5 _ _ _ _ _));generalize ho:({cls:=.type "traceback",dict:=none,data:=.fields ([F5,.ref L,.none,rawInt L,.none]++(if pl.isEmpty then List.replicate 6 Value.none else pl)).toArray}:Obj)=ot;have Il:h1.get? e=some oe:=(s1.2.1 e ne).trans he;have PF:=cI (h:=h1) ot Il;refine AX PF hd hz ?_;have nT:h1.objs.size≠e:=Ba (bP Il);have PB:=ER hd (·.setIfInBounds 1 (Value.ref h1.objs.size));have WU:=yP (Obj.mapFields (·.setIfInBounds 1 (Value.ref h1.objs.size))) PF (Jo PB);have gt:(h1.push ot).get? h1.objs.size=some ot:=gX h1 (by subst ho;rfl);have hT:=(sI (h1.push ot) (Obj.mapFields (·.setIfInBounds 1 (Value.ref h1.objs.size))) (cN nT)).trans gt;have WV:ot.data=.fields ([F5,.ref L,.none,rawInt L,.none]++(if pl.isEmpty then List.replicate 6 Value.none else pl)).toArray:=by subst ho;rfl
 unfold setFlight;refine aj (fL WU PB (x:=.ref h1.objs.size) (by simp[hz]) ?_);rw[aF (show(Value.ref h1.objs.size != Value.none)=true from by simp)];have z3:3<([F5,.ref L,.none,rawInt L,.none]++(if pl.isEmpty then List.replicate 6 Value.none else pl)).toArray.size:=by simp only[df,dz,fJ,kI];omega
 refine AX hT WV z3 ?_;have WX:=ER WV (·.setIfInBounds 3 ((none:Option Addr).elim Value.none λf=>rawInt f));have Ze:=yP (Obj.mapFields (·.setIfInBounds 3 ((none:Option Addr).elim Value.none λf=>rawInt f))) hT (Jo WX);have Zf:=(sI ((h1.push ot).update e (Obj.mapFields (·.setIfInBounds 1 (Value.ref h1.objs.size)))) (Obj.mapFields (·.setIfInBounds 3 ((none:Option Addr).elim Value.none λf=>rawInt f))) nT).trans WU
 have hk:∀b o,h1.get? b=some o->b≠e->((((h1.push ot).update e (Obj.mapFields (·.setIfInBounds 1 (Value.ref h1.objs.size)))).update h1.objs.size (Obj.mapFields (·.setIfInBounds 3 ((none:Option Addr).elim Value.none λf=>rawInt f))))).get? b=some o:=λb o hb nb=>by
  rw[sI _ _ (Ba (bP hb)),sI _ _ (cN nb)];exact cI _ hb
 have Zg:h1.objs.size=s.heap.objs.size:=s1.1;refine hq _ h1.objs.size ⟨le,_,_,Zf,(Obj.cls_mapFields _ _).trans hc,?_,PB,by simp[hz],nT,∅,_,_,Ze,WX,?_⟩ (by have:=k0.sz;omega) ⟨?_,λb o hb nb nt nf=>?_,λb o hb nb nt=>?_⟩
 ·obtain⟨a1,a2,a3,a4⟩:=oe;obtain rfl:a3=.fields vs:=hd;exact hx
 ·rw[Array.getElem?_setIfInBounds,aF rfl,aF z3];rfl
 ·refine bJ k0.sz ?_;rw[<- Zg,Jm,Jm,sR];exact y6 _
 ·exact hk b o ((s1.2.1 b nf).trans (k0.keep b o hb nb nt nf)) nb
 ·obtain⟨sl,h5⟩:=k0.slots b o hb nb nt;obtain⟨OD,h6⟩:=s1.2.2 b _ h5;exact⟨OD,hk b _ h6 nb⟩
theorem tV.refl{fr:List Addr}{e:Addr}{tr:Option Addr}{h:Heap}:tV fr e tr h h:=⟨aE _,λ_ _ z _ _ _=>z,λb o z _ _=>⟨o.slots,z⟩⟩
theorem KG{base:Heap}{env:Env}{outer:List Env}{L e C dx:Addr}{lo:Nat}{tr:Option Addr}{Q:Unit->Shared->Prop}(B5:A.frames=some (env::outer))(hl:s.heap.FunFrames base (env::outer))(hf:env.frame=some L)(vQ:lo<=s.heap.objs.size)(hx:zI s.heap lo e C dx tr)(hq:∀h' T,zI h' lo e C dx (some T)->s.heap.objs.size<=T->tV ((env::outer).filterMap (·.frame)) e tr s.heap h'->Q () {s with heap:=h'}):wpAny M A (noteFrame (.ref e) env) (λ_ s'=>wpAny M A (setFlight (.ref e) none) Q E s') E s:=by
 obtain⟨le,oe,vs,he,hc,hx,hd,ht⟩:=hx;unfold noteFrame;simp only[hf]
 cases tr with
 | none =>
  have h1:vs[1]?=some .none:=ht;refine aj (fL he hd h1 ?_);rw[aP (by decide)];exact xQ B5 hl hf vQ le he hc hx hd (yN.mp h1).1 .refl hq
 | some T =>
  obtain⟨h1,nT,lT,oT,ts,gT,dT,h3⟩:=ht;refine aj (fL he hd h1 ?_);rw[aF (show(Value.ref T != Value.none)=true from by simp)];refine aj (fL gT dT h3 ?_);rw[aP (show ¬((Value.none==rawInt L)=true) from by simp[rawInt])];refine aj (AX gT dT (yN.mp h3).1 ?_);have ot:∀b,b≠T->(s.heap.update T (Obj.mapFields (·.setIfInBounds 3 Value.none))).get? b=s.heap.get? b:=λb hb=>sI _ _ (cN hb);have z:(s.heap.update T (Obj.mapFields (·.setIfInBounds 3 Value.none))).objs.size=s.heap.objs.size:=Jm ..
  refine xQ (h0:=s.heap) B5 (hl.of_keeps λb o hb nf=>⟨o,(ot b λq=>by subst q;rw[gT]at hb;cases hb;exact nf ts dT).trans hb,rfl⟩) hf (by show lo<=(s.heap.update T _).objs.size;rw[z];exact vQ) le ((ot e (cN nT)).trans he) hc hx hd (yN.mp h1).1
   ⟨vB z.symm,λb o hb nb nt nf=>(ot b λq=>nt (by rw[q])).trans hb,λb o hb nb nt=>⟨o.slots,(ot b λq=>nt (by rw[q])).trans hb⟩⟩ hq
end
end L2
end
section
namespace L2
open PySem PySem.Spec PyProof.Rows
noncomputable def XO(a C dx:Addr):HO:=.ext λh=>∃oe vs,h.get? a=some oe/\oe.cls=.ref C/\oe.dict=some dx/\oe.data=.fields vs
theorem XO.ok{P:Program}{w:World}{H:Hp}{h:Heap}{a C dx:Addr}{oe:Obj}{vs:Array Value}(e:h.get? a=some oe)(c:oe.cls=.ref C)(d:oe.dict=some dx)(f:oe.data=.fields vs):bL P w H h a (XO a C dx) :=
 ⟨⟨oe,vs,e,c,d,f⟩,⟨oe,e⟩,λh1 h2 ⟨oe,vs,e,r⟩ k=>⟨oe,vs,k _ e,r⟩⟩
theorem zI.mono{h:Heap}{lo WY:Nat}{e C dx:Addr}{tr:Option Addr}(x:zI h lo e C dx tr)(l:WY<=lo):zI h WY e C dx tr:=by
 obtain⟨le,oe,vs,a,b,c,d,r⟩:=x;refine⟨bJ l le,oe,vs,a,b,c,d,?_⟩
 cases tr with
 | none=>exact r
 | some T=>exact⟨r.1,r.2.1,bJ l r.2.2.1,r.2.2.2⟩
theorem zI.ok{P:Program}{w:World}{H:Hp}{h:Heap}{lo:Nat}{e C dx:Addr}{tr:Option Addr}(x:zI h lo e C dx tr):bL P w H h e (XO e C dx):=by
 obtain⟨le,oe,vs,a,b,c,d,r⟩:=x;exact XO.ok a b c d
noncomputable def ni(X:Cx)(ae:List (Addr×Obj))(H:Hp)(tr:Option Addr):Prop:=∀T,tr=some T->H T=none/\X.dU.heap.objs.size<=T/\T≠X.env.locals/\(∀x c,X.env.cells.lookup x=some c->c≠T)/\∀p∈X.pn++ae,p.1≠T
section
variable {X:Cx} {ae:List (Addr×Obj)} {σ:St} {H:Hp} {s:Shared}
theorem ni.new(I:Inv X ae σ H s){H':Hp}{T:Addr}(h:s.heap.objs.size<=T)(n:H' T=none):ni X ae H' (some T):=λT' e=>by
 cases e;refine⟨n,bJ I.sz h,λz=>?_,λx c e z=>?_,λp hp z=>?_⟩
 ·subst z;exact absurd I.lt (sS.mpr h)
 ·obtain⟨v,o,ho,_⟩:=I.cell x c e;subst z;exact absurd (bP ho) (sS.mpr h)
 ·have:=bP (I.pin p hp).1;rw[z]at this;exact absurd this (sS.mpr h)
theorem ni.none:ni X ae H none:=λ_ e=>nomatch e
theorem tW{M:Model}{E:Value->Shared->Prop}{lo:Nat}{e C dx:Addr}{tr:Option Addr}{Q:Unit->Shared->Prop}(I:Inv X ae σ H s)(xv:X.stack=X.env::X.outer/\X.env.frame=some X.env.locals)(hx:zI s.heap lo e C dx tr)(he:H e=some (XO e C dx))(hT:ni X ae H tr)(vQ:lo<=s.heap.objs.size)(hq:∀s' T,Inv X ae σ H s'->zI s'.heap lo e C dx (some T)->s.heap.objs.size<=T->H T=none->Q () s'):wpAny M X.A (noteFrame (.ref e) X.env) (λ_ s'=>wpAny M X.A (setFlight (.ref e) none) Q E s') E s:=by
 have B5:=I.ok.frames;rw[xv.1]at B5;have fO:=I.stack;rw[xv.1]at fO;refine KG B5 fO xv.2 vQ hx λh' T x l k=>?_;have hn:H T=none:=I.bw.fresh l
 have PH:∀b,b∈(X.env::X.outer).filterMap (·.frame)->H b=none/\b∈X.env.locals::X.fs:=λb hb=>by
  have sy:b∈y9 X.stack:=by rw[xv.1];exact hb
  exact⟨I.qr b sy,I.qq b sy⟩
 have Zh:∀b u,H b=some u->tr≠some b:=λb u q z=>by rw[(hT b z).1]at q;cases q
 have kt:∀b u o,H b=some u->b≠e->s.heap.get? b=some o->h'.get? b=some o:=λb u o q nb g=>k.keep b o g nb (Zh b u q) λz=>by rw[(PH b z).1]at q;cases q
 refine hq _ T ?_ x l hn;refine I.step (g':=s.gens) (d':=s.drawn) (t':=s.toks) (ch:=tr.toList) (λb hb=>?_) (λb o nl nf nc g n=>?_) (λb o nl hf nc g n=>?_) (λb o _ _ n=>n) (λb o nc g=>?_) (λ_ _ q=>q) (λ_ _ _ q=>q) (λb ps q=>⟨#[],by rw[q];simp⟩) (λm hm=>?_) (λb u q=>?_) I.bare
 ·cases tr with
  | none=>cases hb
  | some T0 =>
   have:b=T0:=by simpa using hb
   subst this;obtain⟨a1,a2,a3,a4,a5⟩:=hT b rfl;exact⟨.inr a2,a3,a4,a5⟩
 ·refine k.keep b o g (λz=>by subst z;rw[he]at n;cases n) (λz=>nc (by rw[z];simp)) λz=>?_;rcases bT.mp (PH b z).2 with y | y
  ·exact nl y
  ·exact nf y
 ·exact k.slots b o g (λz=>by subst z;rw[he]at n;cases n) λz=>nc (by rw[z];simp)
 ·by_cases hb:b=e
  ·subst hb;obtain⟨_,oe,_,g1,_⟩:=x;exact⟨oe,g1⟩
  ·obtain⟨sl,y⟩:=k.slots b o g hb λz=>nc (by rw[z];simp);exact⟨_,y⟩
 ·obtain⟨o,es,ep,ho,r⟩:=hm;obtain⟨sl,y⟩:=k.slots _ o ho (λz=>by have f:=I.free;rw[z,he]at f;cases f) λz=>(hT _ z).2.2.1 rfl;exact⟨_,es,ep,y,r⟩
 ·by_cases hb:b=e
  ·subst hb;rw[he]at q;cases q;exact x.ok
  ·refine(I.bw b u q).qm (λc o hc g=>?_) (λ_ z=>z) λ_ _ z=>z;rcases hc with z | z
   ·subst z;exact kt _ u o q hb g
   ·refine kt c _ o z (λy=>?_) g;subst y;rw[he]at z;cases z
def sC(P:Program)(w:World):zt:=λouter H s E e s'=>∃ea C dx T H',e=.ref ea/\s'.os=s.os/\AllBare s'.gens/\Un (y9 outer) [] H H' s.heap s'.heap/\iJ P w H' s'.heap/\zI s'.heap s.heap.objs.size ea C dx (some T)/\H' ea=some (XO ea C dx)/\H' T=none/\E (.ref C) (some dx) H'
structure pJ (X:Cx) (E:XK):Prop where
 xe:∀{ae:List (Addr×Obj)}{σ:St}{H:Hp}{s:Shared}{e C dx:Addr}{tr:Option Addr}{lo:Nat},Inv X ae σ H s->zI s.heap lo e C dx tr->H e=some (XO e C dx)->ni X ae H tr->X.dU.heap.objs.size<=lo->lo<=s.heap.objs.size->E (.ref C) (some dx) H->X.xe (.ref e) s
 own:PassesOwn (model X.prog X.w) X.A X.env X.xe
theorem pJ.pass{E:XK}(p:pJ X E):qC (sC X.prog X.w) X E:=by
 rintro ae σ H s e s' I ⟨ea,C,dx,T,H',rfl,os,bare,un,bw,x,he,hT,hE⟩;have I':Inv X ae σ H' s':=I.Bj os un bw bare (λb z=>absurd z (by simp));have x0:=x;obtain⟨l1,oe,vs,g,c,d,f,h1,h2,lT,_⟩:=x;exact p.xe I' x0 he (ni.new I lT hT) I.sz (bJ l1 (kJ (bP g))) hE
end
theorem qS{P:Program}{w:World}{K:Frag}{mg:Str->Option Value}{base:Heap}{N:List Str}{qual:Str}{scope:Scope}{f:Addr}{cd:Value}{A:Around}{outer:List Env}{dU:Shared}{mM:Hp}{E:XK}:pJ (qE (sC P w) P w K mg base N qual scope f cd A outer dU mM E) E where
 own:=PassesOwn.leaving
 xe:=by
  intro ae σ H s e C dx tr lo I x he hT l1 l2 hE;show wpAny _ _ (leaving _ _) _ _ _;unfold leaving;refine aj (tW I ⟨rfl,rfl⟩ x he hT l2 λs' T I' x' lT nT=>?_);exact⟨e,C,dx,T,H,rfl,I'.os,I'.bare,I'.base,I'.bw,x'.mono l1,he,nT,hE⟩
end L2
end
section
namespace L2
open PySem PySem.Spec PyProof.Rows
noncomputable def fh:List Str:=["__setattr__","__getattribute__","__getattr__","__class__"]
structure sD (K:Frag) (C D fI:Addr) (f:Str):Prop where
 cls:∃nm q N bs sn sub ab pH dd k0 k1 k2 k3 k5,K.lookup C=some (excClassObj nm q C N bs (.ref D::VE) true sn sub ab pH dd k0 k1 k2 k3 k5 "ValueError.__new__")/\PySem.W.nsOkIn K N=true/\PySem.W.nsIn K N "__init__" = some (some (.ref fI))/\∀n∈f::fh,PySem.W.nsIn K N n=some none
 par:∃c0 dd cd sl,K.lookup D=some {cls:=c0,dict:=dd,data:=.cls cd,slots:=sl}/\PySem.W.nsOkIn K cd.ns=true/\∀n∈("__init__" : Str)::f::fh,PySem.W.nsIn K cd.ns n=some none
 ve:typeLookup (.type "ValueError") f=pure none
theorem vV{K:Frag}{h:Heap}{N:Addr}{m:Str->Option Value}{n:Str}{v:Value}(X:K.In h)(G:h.Ns N m)(e:PySem.W.nsIn K N n=some (some v)):m n=some v:=by
 obtain⟨o,es,ep,ho,hd,_,hf⟩:=G;unfold PySem.W.nsIn at e;split at e
 ·rename_i q
  have z:=X _ _ q;rw[ho]at z;cases z;cases hd;split at e
  ·rename_i en he
   cases e;rw[<- hf];unfold nsFind findBy;rw[<- Array.find?_toList,he];rfl
  ·split at e<;>cases e
 ·cases e
theorem sD.at{K:Frag}{C D fI:Addr}{f:Str}(x:sD K C D fI f){h:Heap}(X:K.In h):∃mN mD,fx h C D mN mD/\mN "__init__" = some (.ref fI)/\∀n∈f::fh,mN n=none/\mD n=none:=by
 obtain⟨⟨nm,q,N,bs,sn,sub,ab,pH,dd,k0,k1,k2,k3,k5,hC,o1,i1,n1⟩,⟨c0,de,cd,sl,hD,o2,n2⟩,_⟩:=x;have a:h.Ns N (h.nsMap N):=.of_isNs (PySem.W.isNs_of_in X o1);have b:h.Ns cd.ns (h.nsMap cd.ns):=.of_isNs (PySem.W.isNs_of_in X o2);exact⟨_,_,⟨⟨nm,q,N,bs,sn,sub,ab,pH,dd,k0,k1,k2,k3,k5,X _ _ hC,a⟩,⟨c0,de,cd,sl,X _ _ hD,b⟩,Ju X b (n2 _ ez)⟩,vV X a i1,λn hn=>⟨Ju X a (n1 n hn),Ju X b (n2 n (dP _ hn))⟩⟩
noncomputable def X0(a C:Addr):HO:=.ext λh=>∃oe t,h.get? a=some oe/\oe.cls=.ref C/\oe.dict=none/\oe.data=.fields #[.ref t,.none,.none,.none,.bool false,.none]
noncomputable def X1(a C dx:Addr):HO:=.ext λh=>∃oe t,h.get? a=some oe/\oe.cls=.ref C/\oe.dict=some dx/\oe.data=.fields #[.ref t,.none,.none,.none,.bool false,.none]
section
variable {X:Cx} {o value:Expr} {f:Str} {pos zg:Pos} {ta tv:TE}
def Zi(K:Frag)(f:Str)(ta tv:TE):TS:=λZ σ H=>tv σ H λy H1=>ta σ H1 λx H2=>∃a C D fI,x=.ref a/\H2 a=some (X0 a C)/\sD K C D fI f/\∀dx,H2 dx=none->dx≠a->Z.nx σ (bu (bu H2 dx (.xd [(f,y)])) a (X1 a C dx))
theorem PJ(ha:PE X o ta)(hv:PE X value tv)(hs:swapsWith value (some (.Attribute o f zg)) pos.line X.env=pure false):PS X (.Assign [.Attribute o f zg] value pos) (Zi X.K f ta tv):=by
 intro ae s σ H Z I h;refine plainObj_wpAny_Assign_Attribute (bX (hv ae s σ H _ I h) λu s1 ⟨y,H1,I1,ry,q⟩=>bX (ha ae s1 σ H1 _ I1 q) λov s2 ⟨x,H2,I2,rx,a,C,D,fI,ex,ea,xi,q2⟩=>?_) hs;subst ex;obtain rfl:ov=Value.ref a:=rx;obtain⟨⟨oe,t,e1,e2,e3,e4⟩,_,_⟩:=(show bL X.prog X.w H2 s2.heap a (X0 a C) from I2.bw a _ ea);obtain⟨mN,mD,xc,_,hn⟩:=xi.at I2.kB;have g1:=hn f (by simp);have g2:=hn "__setattr__" (by simp[fh]);obtain⟨h,g,d,tk,os⟩:=s2;refine F3 xc g2.1 g2.2 g1.1 g1.2 xi.ve e1 e2 e4 e3 λh' Au dx l z k n1=>?_;have nx:H2 dx=none:=I2.bw.fresh l;have ne:dx≠a:=λy=>by subst y;exact absurd (bP e1) (sS.mpr l)
 have na:∀b,H2 b=none->b≠a:=λb q y=>by subst y;rw[ea]at q;cases q
 have nb:∀b u,H2 b=some u->b≠dx:=λb u q y=>by subst y;rw[nx]at q;cases q
 have u1:∀b,b≠a->b≠dx->bu (bu H2 dx (.xd [(f,y)])) a (X1 a C dx) b=H2 b:=λb p q=>by rw[aq p,aq q]
 have nl:∀b o,h.get? b=some o->b≠dx:=λb o q y=>by subst y;exact absurd (bP q) (sS.mpr l)
 have kk:∀b u,H2 b=some u->(∀c,u≠.ext c)->b≠a:=λb u q p y=>by subst y;rw[ea]at q;cases q;exact p _ rfl
 refine⟨σ,_,I2.un (t':=Au) ⟨λb o q n _ _=>k b o (na b n) q,λb o q n _ _=>⟨o.slots,k b o (na b n) q⟩,λb o q n _=>by rw[u1 b (na b n) (nl b o q)];exact n,λb o q _=>?_,λb xs q=>?_,λb o u q=>?_,λb ps q=>⟨#[],?_⟩⟩ λb u q=>?_,q2 dx nx ne⟩
 ·by_cases hb:b=a
  ·subst hb;exact⟨_,z⟩
  ·exact⟨o,k b o hb q⟩
 ·rw[u1 b (kk b _ q λc y=>by cases y) (nb b _ q)];exact q
 ·rw[u1 b (kk b _ q λc y=>by cases y) (nb b _ q)];exact q
 ·rw[u1 b (kk b _ q λc y=>by cases y) (nb b _ q),q];simp
 ·by_cases hb:b=a
  ·subst hb;rw[aS]at q;cases q;exact⟨⟨_,t,z,e2,rfl,e4⟩,⟨_,z⟩,λh1 h2 ⟨oe,t,e,r⟩ k=>⟨oe,t,k _ e,r⟩⟩
  ·rw[aq hb]at q;by_cases hd:b=dx
   ·subst hd;rw[aS]at q;cases q;refine⟨_,n1,λn=>?_⟩;by_cases hf:n=f
    ·subst hf;simp only[e_,mJ,dA];exact ry
    ·have:(n==f)=false:=by simpa using hf
     simp only[e_,this,hf,oO];exact True.intro
   ·rw[aq hd]at q;refine(I2.bw b u q).qm (λc o hc r=>k c o ?_ r) (λc r=>?_) λc xs r=>?_
    ·rcases hc with y | y
     ·rw[y];exact hb
     ·exact kk c _ y λ_ w=>by cases w
    ·rw[u1 c (kk c _ r λ_ w=>by cases w) (nb c _ r)];exact r
    ·rw[u1 c (kk c _ r λ_ w=>by cases w) (nb c _ r)];exact r
end
def KH(K:Frag)(C D fI:Addr)(f:Str):Sp:=λvs H Q _=>∃a v,vs=[.ref a,v]/\H a=some (X0 a C)/\sD K C D fI f/\∀dx,H dx=none->dx≠a->Q .aL (bu (bu H dx (.xd [(f,v)])) a (X1 a C dx))
theorem F6{P:Program}{w:World}{K:Frag}{mg:Str->Option Value}{base:Heap}{qual:Str}{st:Stmt}{fI C D:Addr}{fd:FuncData}{f sf:Str}{p1 p2 p3 p4:Pos}{k:Nat} (F:NG K "__init__" qual st fI fd) (Sc:gA [sf,f] [sf,f] (aI st)) (hb:cv st=[.Assign [.Attribute (.Name sf p1) f p2] (.Name f p3) p4]) (h1:OE (aI st) sf) (h2:OE (aI st) f) (n1:((sf==("__debug__" : Str))||(sf==("__classdict__" : Str))||(f==("__debug__" : Str))||(f==("__classdict__" : Str)))=false):dQ P w K mg base Ig (k+1) fI fd [sf,f] (KH K C D fI f):=by
 simp only[EK]at n1;obtain⟨⟨⟨a1,a2⟩,a3⟩,a4⟩:=n1;refine F.ok Sc (λvs H Q E h=>?_) λlU A outer s H vs Q E hr uZ=>?_
 ·obtain⟨a,v,rfl,_⟩:=h;rfl
 ·obtain⟨a,v,rfl,ha,xi,q⟩:=uZ;refine⟨_,by rw[hb];exact jK (PJ (g_ (i:=0) rfl h1 a1 a2) (g_ (i:=1) rfl h2 a3 a4) rfl),?_⟩;exact⟨v,rfl,.ref a,rfl,a,C,D,fI,rfl,ha,xi,q⟩
section
variable {X:Cx}
def U3(E:XK)(C:Addr)(f:Str)(t:TA):TS:=λ_ σ H=>t σ H λvs H1=>∃v,vs=[v]/\∀e dx,H1 e=none->H1 dx=none->dx≠e->E (.ref C) (some dx) (bu (bu H1 dx (.xd [(f,v)])) e (XO e C dx))
theorem Ce{E:XK}{k:Nat}{C D fI:Addr}{fd:FuncData}{oI:Obj}{f sf x:Str}{e:Expr}{np cS pos:Pos}{t:TA}(p:pJ X E)(hc:X.A.handled=none)(xi:sD X.K C D fI f)(hf:X.K.lookup fI=some oI) (Zj:oI.cls=.type "function") (F:dQ X.prog X.w X.K X.mg X.base Ig k fI fd [sf,f] (KH X.K C D fI f)) (hr:eB (k+1) X.A) (hb:Binds X.K fd [sf,f] []) (hg:Gl X x) (hm:X.mg x=some (.ref C)) (ha:PA X [e] t) (hs:starEach [e] X.env=[(false,eval e X.env)]) (BD:(x==("__debug__" : Str))=false):PS X (.Raise (some (.Call (.Name x np) [e] [] cS)) none pos) (U3 E C f t):=by
 intro ae s σ H Z I h;refine F2 (C:=C) (D:=D) hc (by rw[hs];rfl) (jJ I hg hm ⟨rfl,?_⟩ BD);have ha:=ha cS ae s σ H _ I h;rw[hs]at ha⊢;refine Calls.evalArgs_plain (bX ha ?_);rintro us s1 ⟨vs,H1,I1,r,v,rfl,q⟩;obtain⟨u,rfl,ru⟩:=vals1 r;obtain⟨mN,mD,xc,hi,_⟩:=xi.at I1.kB;refine⟨rfl,⟨mN,mD,xc⟩,?_⟩;obtain⟨h1,g1,d1,t1,WZ⟩:=s1;refine Cc xc hi (I1.kB _ _ hf) Zj (λh2 e hm l=>?_) (by show 1<=sizeLine;decide);obtain⟨t,ge,_⟩:=hm.there;have ne:H1 e=none:=I1.bw.fresh l;have I2:Inv X ae σ (bu H1 e (X0 e C)) ⟨h2,g1,d1,t1,WZ⟩:=I1.laid (t':=t1) hm.keeps l ⟨⟨_,t,ge,rfl,rfl,rfl⟩,⟨_,ge⟩,λh1 h2 ⟨oe,t,e,r⟩ k=>⟨oe,t,k _ e,r⟩⟩
 have uZ:KH X.K C D fI f [.ref e,v] (bu H1 e (X0 e C)) (λw H2=>w=.aL/\∃dx,H1 dx=none/\dx≠e/\H2=bu (bu (bu H1 e (X0 e C)) dx (.xd [(f,v)])) e (X1 e C dx)) E0 :=
  ⟨e,v,rfl,aS,xi,λdx nd ne2=>⟨rfl,dx,by rw[aq ne2]at nd;exact nd,ne2,rfl⟩⟩
 have r2:aQ [V.ref e,v] [Value.ref e,u]:=.cons rfl (.cons ru .nil);refine wpAny_call (Bb (F.run _ X.stack _ _ ⟨[.ref e,u],[]⟩ [.ref e,u] _ _ E0 (hr.make C [u] []) (I2.Ke.make C [u] []) (by have:=hb ⟨h2,g1,d1,t1,WZ⟩ [.ref e,u] I2.kB rfl;rw[oK]at this;exact this) r2 uZ) λr s3 hq=>?_)
 cases r with
 | error e=>exact hq.elim
 | ok fl =>
  cases fl with
  | ret u =>
   obtain⟨w,H',I3,kE,ew,dx,nd,Zk,eH⟩:=I2.after hq;subst ew;refine⟨kE,?_⟩;have e1:H' e=some (X1 e C dx):=by rw[eH];exact aS
   obtain⟨⟨oe,t3,g3,c3,d3,f3⟩,_⟩:=(show bL X.prog X.w H' s3.heap e (X1 e C dx) from I3.bw e _ e1)
   have Zl:bu H' e (XO e C dx)=bu (bu H1 dx (.xd [(f,v)])) e (XO e C dx):=by
    rw[eH];funext b;by_cases hb:b=e
    ·subst hb;rw[aS,aS]
    ·rw[aq hb,aq hb,aq hb];by_cases hd:b=dx
     ·subst hd;rw[aS,aS]
     ·rw[aq hd,aq hd,aq hb]
   have I4:Inv X ae σ (bu H' e (XO e C dx)) s3:=I3.write (t':=s3.toks) (h':=s3.heap) (by rw[e1];exact True.intro) (.inl rfl) (λ_ _ _ z=>z) ⟨_,g3⟩ (XO.ok g3 c3 d3 f3);obtain⟨mN,mD,Zm,_⟩:=xi.at I3.kB;refine⟨e,oe,_,rfl,⟨mN,mD,Zm⟩,g3,c3,f3,rfl,?_⟩;refine p.xe I4 (lo:=h1.objs.size) ⟨l,oe,_,g3,c3,d3,f3,rfl⟩ aS ni.none I1.sz (bJ l (kJ (bP g3))) ?_;rw[Zl];exact q e dx ne nd Zk
  | next=>exact hq.elim
  | brk=>exact hq.elim
  | cont=>exact hq.elim
end
end L2
end
section
namespace L2
open PySem PySem.Spec PyProof.Rows
theorem zJ{K:Frag}{M:Model}{A:Around}{E:Value->Shared->Prop}{s:Shared}{e C B:Addr}{oe:Obj}{Q:Bool->Shared->Prop}(X:K.In s.heap)(he:s.heap.get? e=some oe)(hc:oe.cls=.ref C)(h1:PySem.W.kitCls K (.ref C) (.ref B)=some true) (h2:PySem.W.kitCls K (.ref B) (.type "BaseException")=some true) (hq:Q true s):wpAny M A (excMatches (.ref e) (.ref B)) Q E s:=by
 obtain⟨a1,a2,a3⟩:=PySem.W.kit_cls (M:=M) X h1;obtain⟨_,_,b3⟩:=PySem.W.kit_cls (M:=M) X h2;have t1:PySem.W.Looks M s.heap (isInstance (.ref B) (.type "tuple")) false:=a1.andThen (PySem.W.Looks.of_pure tc_notTuple);unfold excMatches isExcClass;refine aj (t1.at ?_);simp only[AM,oO];obtain⟨hp,g,d,tk,os⟩:=s;refine aj (aO ?_);simp only[List.forIn_cons,List.forIn_nil]
 have t2:PySem.W.Looks M hp (typeOf (.ref e)) (.ref C):=by
  unfold typeOf;intro A' Q' E' s' k q;rw[<- hc]at q;exact aj (wpAny_loadPart (k _ _ he) (aO q))
 refine aj (aj (aj (aj (a2.at ?_))));simp only[dA];refine b3.at ?_;simp only[Bool.not_true,AM,oO];refine aO (aO (aj (t2.at (aj (aj (aj (a3.at ?_)))))));simp only[dA];exact aO (aO (aO hq))
noncomputable def Cx.hx(X:Cx)(e:Addr):Cx:={X with A:=X.A.mark (some (.ref e)),calm:=false,xe:=λ_ _=>False}
section
variable {X:Cx} {ae:List (Addr×Obj)} {σ:St} {H:Hp} {s:Shared} {e:Addr}
theorem Inv.hx(I:Inv X ae σ H s)(e:Addr):Inv (X.hx e) ae σ H s :=
 ⟨⟨I.ok.mod,I.ok.kind,I.ok.glob,I.ok.blt,I.ok.above,I.ok.inj,I.ok.has,I.ok.HP,λz=>Bool.noConfusion z,I.ok.frames,I.ok.xv,I.ok.RX,I.ok.bs,I.ok.An,I.ok.y_,I.ok.zc,I.ok.jH,I.ok.E5⟩,I.os,I.bare,I.base,I.loc,I.cell,I.free,I.fY,I.pin,I.bw,I.len⟩
theorem Inv.U4(ok:X.Ok)(I:Inv (X.hx e) ae σ H s):Inv X ae σ H s:=⟨ok,I.os,I.bare,I.base,I.loc,I.cell,I.free,I.fY,I.pin,I.bw,I.len⟩
theorem name_goes{M:Model}{A:Around}{E:Value->Shared->Prop}{i:Nat}{n:Str}{pos:Pos}{Q:Unit->Shared->Prop}(I:Inv X ae σ H s)(hN:X.N.Nodup)(hi:X.N[i]?=some n)(hl:X.env.scope.names.lookup n=some .local)(h:∀s',Inv X ae (σ.set i none) H s'->Q () s'):wpAny M A (do bindName X.env n .none;unbindBehindTheSuite X.env n pos) Q E s:=by
 obtain⟨m,hn,U5⟩:=id I.loc;have JM:(X.env.scope.kind == .class||(X.env.scope.kind == .module&&X.env.locals != X.env.globals))=false:=by rw[I.ok.kind];rfl
 refine wpAny_nameGoes_keeps hl hn JM λh' v vD hs=>?_;have Nz:∀b o,X.dU.heap.get? b=some o->b≠X.env.locals:=λb o e=>eK (fH (bP e) I.ok.above);refine h _ ⟨I.ok,I.os,I.bare,⟨λb o e n hb hx=>(hs.2 b (Nz b o e)).trans (I.base.keep b o e n hb hx),λb o e n hb hx=>?_,I.base.free,λb o e hx=>?_,I.base.eW,I.base.jG,I.base.kK⟩,⟨_,vD,λj y v' e1 e2 e3=>?_⟩,λy c e=>?_,I.free,I.fY,λp hp=>?_,λb ob q=>?_,by rw[ja];exact I.len⟩
 ·obtain⟨sl,e1⟩:=I.base.slot b o e n hb hx;exact⟨sl,(hs.2 b (Nz b o e)).trans e1⟩
 ·obtain⟨o',e1⟩:=I.base.there b o e hx;exact⟨o',(hs.2 b (Nz b o e)).trans e1⟩
 ·have hj:j≠i:=λz=>by
   subst z;rw[List.getElem?_set]at e2;split at e2
   ·split at e2<;>cases e2
   ·exact absurd rfl ‹_›
  rw[kH (cN hj)]at e2;obtain⟨u',r',q⟩:=U5 j y v' e1 e2 e3;refine⟨u',r',?_⟩;rcases q with⟨k,q⟩|⟨k,c,q,z⟩
  ·have ny:y≠n:=λz=>hj (mO hN e1 (by rw[z];exact hi));exact .inl ⟨k,by show(if y=n then v else m y)=_;rw[aP ny];exact q⟩
  ·exact .inr ⟨k,c,q,z.sameBut hs (I.E6 y c q)⟩
 ·obtain⟨w',z⟩:=I.cell y c e;exact⟨w',z.sameBut hs (I.E6 y c e)⟩
 ·obtain⟨e,n,ne,nf,d⟩:=I.pin p hp;exact⟨(hs.2 p.1 ne).trans e,n,ne,nf,d⟩
 ·refine(I.bw b ob q).qm (λc w' hc q'=>(hs.2 c ?_).trans q') (λ_ q=>q) λ_ _ q=>q;rintro rfl;rcases hc with z | z
  ·have:=I.free;rw[z,q]at this;cases this
  ·have:=I.free;rw[z]at this;cases this
theorem vW{Z:Ends}{lo:Nat}{C dx B:Addr}{tr:Option Addr}{cn n:Str}{tp F7:Pos}{b0:Stmt}{hb:List Stmt}{th:TS}{i:Nat}(I:Inv X ae σ H s)(xv:X.stack=X.env::X.outer/\X.env.frame=some X.env.locals)(x:zI s.heap lo e C dx tr)(he:H e=some (XO e C dx))(hT:ni X ae H tr)(l2:lo<=s.heap.objs.size)(hg:Gl X cn)(hm:X.mg cn=some (.ref B)) (BD:(cn==("__debug__" : Str))=false) (k1:PySem.W.kitCls X.K (.ref C) (.ref B)=some true) (k2:PySem.W.kitCls X.K (.ref B) (.type "BaseException")=some true) (hN:X.N.Nodup) (hi:X.N[i]?=some n) (hl:X.env.scope.names.lookup n=some .local) (hh:pe (X.hx e) (b0::hb) th) (q:th {nx:=λFe H2=>Z.nx (Fe.set i none) H2,rt:=λ_ _=>False} (σ.set i (some (.ref e))) H):wpAny (model X.prog X.w) X.A (noteFrame (.ref e) X.env) (λ_ s2=>wpAny (model X.prog X.w) X.A (setFlight (.ref e) none) (λ_ s3=>wpAny (model X.prog X.w) X.A (handleBy (.ref e) X.env [.ExceptHandler (some (.Name cn tp)) (some n) (b0::hb) F7]) (SP X ae Z) X.xe s3) X.xe s2) X.xe s:=by
 refine tW I xv x he hT l2 λs1 T I1 x1 lT nT=>?_;obtain⟨le,oe,vs,g1,c1,d1,f1,h1,nTe,_,oT,ts,gT,dT,h3⟩:=id x1;refine wpAny_handleBy_cons (codeAny_handlers_test ?_) (by intro q;cases q);refine jJ (X:=X.hx e) (I1.hx e) hg hm ?_ BD;refine zJ I1.kB g1 c1 k1 k2 ?_;refine codeAny_handlers_suite_as (wpAny_setFlight_none g1 f1 h1 gT dT (yN.mp h3).1 ?_);have tt:=ni.new (H':=H) I lT nT T rfl;have I2:Inv X ae σ H {s1 with heap:=s1.heap.update T (Obj.mapFields (·.setIfInBounds 3 .none))}:=I1.turned (t':=s1.toks) (it:=T) (λb o nb z=>(sI _ _ (cN nb)).trans z) nT tt.2.2.1 (.inr tt.2.1) tt.2.2.2.1 tt.2.2.2.2;refine jI (v:=.ref e) I2 hN hi (.inl hl) rfl (λs3 I3=>?_) (.inr hl);refine jb (hh ae s3 _ H _ (I3.hx e) q) (λf s4 h4=>?_) λ_ _ z=>z.elim
 cases f with
 | next =>
  obtain⟨σ4,H4,I4,q4⟩:=h4;exact name_goes (I4.U4 I.ok) hN hi hl λs5 I5=>⟨_,H4,I5,q4⟩
 | brk=>obtain⟨_,_,_,q4⟩:=h4;exact q4.elim
 | cont=>obtain⟨_,_,_,q4⟩:=h4;exact q4.elim
 | ret u=>obtain⟨_,_,_,_,_,q4⟩:=h4;exact q4.elim
end
end L2
end
section
namespace L2
open PySem PySem.Spec PyProof.Rows
theorem Cf{K:Frag}{x C D fI:Addr}{f:Str}(xi:sD K C D fI f):PySem.W.KitX K (.ref x) (.ref C) (λh=>∃o,h.get? x=some o/\o.cls=.ref C) where
 ty:=λM h _ ⟨o,e,c⟩=>by
  unfold typeOf;intro A' Q' E' s' k q;rw[<- c]at q;exact aj (wpAny_loadPart (k _ _ e) (aO q))
 it:=λM h X _=>by
  obtain⟨⟨nm,q,N,bs,sn,sub,ab,pH,dd,k0,k1,k2,k3,k5,hC,_⟩,_,_⟩:=xi;intro A' Q' E' s' k q;unfold isType loadHead;exact aj (wpAny_loadPart (k _ _ (X _ _ hC)) (aO q))
 ne:=λh tp dd aA n sl X Zn=>by
  obtain⟨⟨nm,q,N,bs,sn,sub,ab,pH,de,k0,k1,k2,k3,k5,hC,_⟩,_,_⟩:=xi;refine Bool.eq_false_iff.mpr λq=>?_;have e:C=tp:=Value.ref.inj (iI.mp q);subst e;have z:=oN Obj.cls (cR ((X _ _ hC).symm.trans Zn));exact absurd (show Value.type "type" = Value.type "tuple" from z) (by decide)
 ca:=λ{prog w A E Q s} X ⟨o,e,c⟩ k=>by
  obtain⟨mN,mD,xc,_,hn⟩:=xi.at X;obtain⟨h,g,d,t,os⟩:=s;have n1:=hn "__getattribute__" (by simp[fh]);have n2:=hn "__getattr__" (by simp[fh]);have n3:=hn "__class__" (by simp[fh]);exact F4 xc n1.1 n1.2 n2.1 n2.2 n3.1 n3.2 e c k
section
variable {X:Cx}
theorem XO.at{P:Program}{w:World}{H:Hp}{h:Heap}{a C dx:Addr}(x:iJ P w H h)(e:H a=some (XO a C dx)):∃oe vs,h.get? a=some oe/\oe.cls=.ref C/\oe.dict=some dx/\oe.data=.fields vs:=(show bL P w H h a (XO a C dx) from x a _ e).1
def PK(K:Frag):List V->Hp->VK->Prop:=λxs H Q=>∃a C dx D fI f y b,xs=[.ref a,y]/\H a=some (XO a C dx)/\sD K C D fI f/\( (∃c,RelV y c/\PySem.W.kitOne K (.ref C) c=some b)\/∃(tp:Addr) (cs:List Addr),y=.ref tp/\H tp=some (.tup (cs.map V.ref))/\PySem.W.kitAny K (.ref C) (cs.map Value.ref)=some b)/\Q (.bl b) H
theorem pK:∀{cs:List Addr}{us:List Value},aQ (cs.map V.ref) us->us=cs.map Value.ref
 | [],_,.nil=>rfl
 | _::_,_,.cons r t=>by rw[(show _=Value.ref _ from r),pK t];rfl
theorem F8{y:V}{c u:Value}(h:RelV y c)(k:RelV y u)(n:∀i,y≠.int i)(m:∀i,y≠.str i)(o:∀i,y≠.JH i)(p:∀i,y≠.HN i):c=u:=by
 cases y with
 | int i=>exact absurd rfl (n i)
 | str i=>exact absurd rfl (m i)
 | JH i=>exact absurd rfl (o i)
 | HN i=>exact absurd rfl (p i)
 | aL=>exact(show c=_ from h).trans (show u=_ from k).symm
 | bl b=>exact(show c=_ from h).trans (show u=_ from k).symm
 | ref b=>exact(show c=_ from h).trans (show u=_ from k).symm
 | ty b=>exact(show c=_ from h).trans (show u=_ from k).symm
theorem Cg:dW X (.builtin "isinstance") (PK X.K):=by
 intro ae s σ H xs us Q I r h;obtain⟨a,C,dx,D,fI,f,y,b,rfl,ea,xi,hc,q⟩:=h
 obtain⟨u1,u2,rfl,r1,r2⟩:∃u1 u2,us=[u1,u2]/\RelV (.ref a) u1/\RelV y u2:=by
  cases r with
  | cons r1 t=>cases t with
   | cons r2 t=>cases t;exact⟨_,_,rfl,r1,r2⟩
 obtain rfl:u1=Value.ref a:=r1;obtain⟨oe,vs,g1,c1,_,_⟩:=XO.at I.bw ea;have fin:∀tk,EP X ae σ Q (.bool b) {s with toks:=tk}:=λtk=>⟨.bl b,H,I.tok tk,rfl,q⟩;rcases hc with⟨c,rc,e⟩|⟨tp,cs,rfl,et,e⟩
 ·have:c=u2:=by
   refine F8 rc r2 ?_ ?_ ?_ ?_<;>(rintro i rfl;obtain⟨t,rfl⟩:=rc;exact absurd e (by unfold PySem.W.kitOne;rw[aP (by simp)];exact λz=>nomatch z))
  subst this;exact lQ (Cf xi) I.kB ⟨oe,g1,c1⟩ e (λz=>nomatch z) fin
 ·obtain rfl:u2=Value.ref tp:=r2;obtain⟨_,aA,rv,o,go,co,n,d1⟩:=(show bL X.prog X.w H s.heap tp (.tup (cs.map V.ref)) from I.bw tp _ et);have:=pK rv;subst this;obtain⟨oc,od,Zo,Ei⟩:=o;obtain rfl:oc=.type "tuple" := co;obtain rfl:Zo=_:=d1;exact PySem.W.kia_tup (Cf xi) I.kB ⟨oe,g1,c1⟩ go e (λz=>nomatch z) fin
def Zp(K:Frag)(te:TE)(f:Str):TE:=λσ H Q=>te σ H λx H1=>∃a C D fI dx fs i,x=.ref a/\H1 a=some (XO a C dx)/\sD K C D fI f/\H1 dx=some (.xd fs)/\fs.lookup f=some (V.int i)/\Q (.int i) H1
theorem PL{e:Expr}{f:Str}{pos:Pos}{te:TE}(he:PE X e te)(hb:attributeBase e f X.env (eval e X.env)=eval e X.env):PE X (.Attribute e f pos) (Zp X.K te f):=by
 intro ae s σ H Q I h;refine Fp hb (bX (he ae s σ H _ I h) ?_);rintro u s1 ⟨x,H1,I1,rx,a,C,D,fI,dx,fs,i,rfl,ea,xi,ed,l,q⟩;obtain rfl:u=Value.ref a:=rx;obtain⟨oe,vs,g1,c1,d1,f1⟩:=XO.at I1.bw ea;obtain⟨mA,n1,rl⟩:=(show bL X.prog X.w H1 s1.heap dx (.xd fs) from I1.bw dx _ ed);have r:=rl f;rw[l]at r;obtain⟨mN,mD,xc,_,hn⟩:=xi.at I1.kB;have m1:=hn "__getattribute__" (by simp[fh]);have m2:=hn "__getattr__" (by simp[fh]);have m3:=hn f (by simp)
 cases hv:mA f with
 | none=>rw[hv]at r;exact r.elim
 | some v =>
  rw[hv]at r;obtain⟨t,rfl⟩:=(show ∃t,v=Value.int i t from r);obtain⟨h1,g,d,tk,os⟩:=s1;exact KD xc m1.1 m1.2 m2.1 m2.2 m3.1 m3.2 xi.ve g1 c1 f1 d1 n1 hv rfl ⟨.int i,H1,I1.tok _,⟨t,rfl⟩,q⟩
end
end L2
end
section
namespace Ev
open L2
open PySem PySem.Spec PyProof.Rows
inductive D where
 | aL | bl (b:Bool) | int (i:Int) | str (s:Str) | tup (ds:List D) | aw (n:Nat) | ls (ds:List D)
 deriving Inhabited
inductive MO where
 | lst (ds:List D) | kF (ds:List D) | dK (au:List (bD×D)) | dT (au:List (List bD×D)) | dF (au:List (List bD×D))
 deriving Inhabited
abbrev ag:=List MO
abbrev En:=List (Option D)
inductive W where
 | d (x:D) | lv (ds:List D)
 deriving Inhabited
structure vX where
 cls:Addr
 fs:List (Str×D)
inductive bS (α:Type) where
 | ok (a:α) (M:ag) | err (x:vX) (M:ag) | af
noncomputable def bS.bind{α β:Type}(o:bS α)(f:α->ag->bS β):bS β:=match o with
 | .ok a M=>f a M
 | .err x M=>.err x M
 | .af=>.af
noncomputable def bS.b0{α β:Type}(o:bS α)(f:α->ag->bS β):bS β:=match o with
 | .ok a M=>f a M
 | _=>.af
noncomputable def tX(K:Frag)(H:Hp)(a:Addr)(xs:List V):Prop :=
 (∃o,H a=some (.gW o (.lst xs)))\/∃(o:Obj) (aA:Array Value) (n:Nat),K.lookup a=some o/\o.cls=.type "list" /\ o.dict=none/\o.data=.seq aA n/\aA.size<=sizeLine/\aQ xs aA.toList
theorem tX.sq{K:Frag}{H:Hp}{a:Addr}{xs:List V}(h:tX K H a xs):fN K H a xs:=by
 rcases h with⟨o,h⟩ | h
 ·exact .inl (.inr ⟨o,h⟩)
 ·exact .inr h
mutual
noncomputable def RD(K:Frag)(ads:List Addr)(H:Hp):D->V->Prop
 | .aL,v=>v=.aL
 | .bl b,v=>v=.bl b
 | .int i,v=>v=.int i
 | .str s,v=>v=.str s
 | .tup ds,v=>∃a xs,v=.ref a/\H a=some (.tup xs)/\aV K ads H ds xs
 | .aw n,v=>∃a,v=.ref a/\ads[n]?=some a
 | .ls ds,v=>∃a xs,v=.ref a/\tX K H a xs/\aV K ads H ds xs
noncomputable def aV(K:Frag)(ads:List Addr)(H:Hp):List D->List V->Prop
 | [],xs=>xs=[]
 | d::ds,xs=>∃x r,xs=x::r/\RD K ads H d x/\aV K ads H ds r
end
section
variable (K:Frag) (ads:List Addr) (H:Hp)
def bW{κ:Type}:List (κ×D)->List (κ×V)->Prop
 | [],xs=>xs=[]
 | p::ps,xs=>∃x r,xs=x::r/\p.1=x.1/\RD K ads H p.2 x.2/\bW ps r
def NJ(a:Addr):MO->Prop
 | .lst ds=>∃xs,H a=some (.lst xs)/\aV K ads H ds xs
 | .kF ds=>∃o xs,H a=some (.gW o (.lst xs))/\aV K ads H ds xs
 | .dK au=>∃ks,H a=some (.dK ks)/\bW K ads H au ks
 | .dT au=>∃ks,H a=some (.dT ks)/\bW K ads H au ks
 | .dF au=>∃o ks,H a=some (.gW o (.dT ks))/\bW K ads H au ks
structure aU (M:ag):Prop where
 nd:ads.Nodup
 len:ads.length=M.length
 obj:∀(n:Nat)(o:MO)(a:Addr),M[n]?=some o->ads[n]?=some a->NJ K ads H a o
def PM(ρ:En)(σ:L2.St):Prop:=∀(i:Nat)(d:D),ρ[i]?=some (some d)->∃v,σ[i]?=some (some v)/\RD K ads H d v
def RW:W->V->Prop
 | .d x,v=>RD K ads H x v
 | .lv ds,v=>∃a xs,v=.ref a/\H a=some (.lst xs)/\a∉ads/\aV K ads H ds xs
end
def Kept(ads:List Addr)(H H':Hp):Prop:=∀b o,b∉ads->H b=some o->H' b=some o
noncomputable def PN(H H':Hp):Prop:=∀b xs,H b=some (.tup xs)->H' b=some (.tup xs)
structure ay (ads ar:List Addr) (H H':Hp):Prop where
 pre:∃r,ar=ads++r
 new:∀b∈ar,b∉ads->H b=none
 kept:Kept ads H H'
 eW:PN H H'
 gW:∀b o u,H b=some (.gW o u)->H' b=some (.gW o u)
theorem ay.refl(ads:List Addr)(H:Hp):ay ads ads H H:=⟨⟨[],by simp⟩,λb h n=>absurd h n,λ_ _ _ h=>h,λ_ _ h=>h,λ_ _ _ h=>h⟩
theorem ay.trans{a b c:List Addr}{H H1 H2:Hp}(g:ay a b H H1)(k:ay b c H1 H2):ay a c H H2:=by
 obtain⟨r,e⟩:=g.pre;obtain⟨r',e'⟩:=k.pre;refine⟨⟨r++r',by rw[e',e,yU]⟩,λx h n=>?_,λx o n h=>?_,λx xs h=>k.eW x xs (g.eW x xs h),λx o u h=>k.gW x o u (g.gW x o u h)⟩
 ·by_cases hb:x∈b
  ·exact g.new x hb n
  ·have:=k.new x h hb
   cases q:H x with
   | none=>rfl
   | some o=>rw[g.kept x o n q]at this;cases this
 ·refine k.kept x o (λhb=>?_) (g.kept x o n h);rw[g.new x hb n]at h;cases h
class EX where
 post:Frag->List Addr->Hp->vX->ag->Prop
 shift:∀{K:Frag}{ads ar:List Addr}{H H':Hp}{x:vX}{M:ag},post K ads H x M->ay ads ar H H'->post K ar H' x M
@[reducible] noncomputable def never:EX:=⟨λ_ _ _ _ _=>False,λh _=>h⟩
instance (priority:=low) Sk:EX:=never
@[reducible] def vY(E:XK):EX:=⟨λK ads H x M=>∀H' ar dx fs,ay ads ar H H'->aU K ar H' M->H' dx=some (.xd fs)->bW K ar H' x.fs fs->E (.ref x.cls) (some dx) H',λh g H1 ai dx fs g1 m1 e r=>h H1 ai dx fs (g.trans g1) m1 e r⟩
section
variable {K:Frag} {ads ar:List Addr} {H H':Hp}
theorem ay.get(g:ay ads ar H H'){n:Nat}{a:Addr}(h:ads[n]?=some a):ar[n]?=some a:=by
 obtain⟨r,e⟩:=g.pre;rw[e,kG (by have:=(bG.mp h).1;exact this)];exact h
theorem ay.kF(g:ay ads ar H H'){a:Addr}{xs:List V}(h:tX K H a xs):tX K H' a xs:=by
 rcases h with⟨o,h⟩ | h
 ·exact .inl ⟨o,g.gW _ _ _ h⟩
 ·exact .inr h
mutual
theorem ay.rd(g:ay ads ar H H'):∀(d:D)(v:V),RD K ads H d v->RD K ar H' d v
 | .aL,_,h=>by unfold RD at *;exact h
 | .bl _,_,h=>by unfold RD at *;exact h
 | .int _,_,h=>by unfold RD at *;exact h
 | .str _,_,h=>by unfold RD at *;exact h
 | .aw n,v,h=>by unfold RD at *;obtain⟨a,e,h⟩:=h;exact⟨a,e,g.get h⟩
 | .tup ds,v,h=>by unfold RD at *;obtain⟨a,xs,e,h,r⟩:=h;exact⟨a,xs,e,g.eW _ _ h,ay.oV g ds xs r⟩
 | .ls ds,v,h=>by unfold RD at *;obtain⟨a,xs,e,h,r⟩:=h;exact⟨a,xs,e,g.kF h,ay.oV g ds xs r⟩
theorem ay.oV(g:ay ads ar H H'):∀(ds:List D)(vs:List V),aV K ads H ds vs->aV K ar H' ds vs
 | [],_,h=>by unfold aV at *;exact h
 | d::ds,vs,h=>by unfold aV at *;obtain⟨x,r,e,h1,h2⟩:=h;exact⟨x,r,e,ay.rd g d x h1,ay.oV g ds r h2⟩
end
theorem ay.F9{κ:Type}(g:ay ads ar H H'):∀(ds:List (κ×D))(vs:List (κ×V)),bW K ads H ds vs->bW K ar H' ds vs
 | [],_,h=>by unfold bW at *;exact h
 | d::ds,vs,h=>by unfold bW at *;obtain⟨x,r,e,h0,h1,h2⟩:=h;exact⟨x,r,e,h0,g.rd d.2 x.2 h1,ay.F9 g ds r h2⟩
theorem ay.W0(g:ay ads ar H H'){ρ:En}{σ:L2.St}(h:PM K ads H ρ σ):PM K ar H' ρ σ:=λi d e=>by
 obtain⟨v,e1,r⟩:=h i d e;exact⟨v,e1,g.rd d v r⟩
theorem ay.cT(g:ay ads ar H H'){a:Addr}{o:HO}(n:a∉ads)(e:H a=some o):a∉ar:=λh=>by
 rw[g.new a h n]at e;cases e
theorem ay.rw(g:ay ads ar H H'){w:W}{v:V}(h:RW K ads H w v):RW K ar H' w v:=by
 cases w with
 | d x=>exact g.rd x v h
 | lv ds =>
  obtain⟨a,xs,e,h,n,r⟩:=h;exact⟨a,xs,e,g.kept a _ n h,g.cT n h,g.oV ds xs r⟩
theorem aV.len:∀{ds:List D}{vs:List V},aV K ads H ds vs->ds.length=vs.length
 | [],_,h=>by unfold aV at h;subst h;rfl
 | d::ds,vs,h=>by unfold aV at h;obtain⟨x,r,e,h1,h2⟩:=h;subst e;simp[aV.len h2]
theorem aV.get:∀{ds:List D}{vs:List V}{i:Nat}{d:D},aV K ads H ds vs->ds[i]?=some d->∃v,vs[i]?=some v/\RD K ads H d v
 | [],_,_,_,h,e=>by simp at e
 | d::ds,vs,0,d',h,e=>by unfold aV at h;obtain⟨x,r,rfl,h1,h2⟩:=h;simp at e;subst e;exact⟨x,rfl,h1⟩
 | d::ds,vs,i+1,d',h,e=>by
  unfold aV at h;obtain⟨x,r,rfl,h1,h2⟩:=h;obtain⟨v,e',r'⟩:=aV.get (i:=i) h2 (by simpa using e);exact⟨v,by simpa using e',r'⟩
theorem aV.app:∀{ds es:List D}{vs ws:List V},aV K ads H ds vs->aV K ads H es ws->aV K ads H (ds++es) (vs++ws)
 | [],_,vs,_,h,k=>by unfold aV at h;subst h;exact k
 | d::ds,es,vs,ws,h,k=>by
  unfold aV at h;obtain⟨x,r,rfl,h1,h2⟩:=h;show aV K ads H (d::(ds++es)) (x::(r++ws));unfold aV;exact⟨x,_,rfl,h1,aV.app h2 k⟩
theorem aV.one{d:D}{v:V}(h:RD K ads H d v):aV K ads H [d] [v]:=by
 unfold aV;exact⟨v,[],rfl,h,by unfold aV;rfl⟩
theorem aV.take:∀{ds:List D}{vs:List V}(n:Nat),aV K ads H ds vs->aV K ads H (ds.take n) (vs.take n)
 | _,_,0,_=>by simp;unfold aV;rfl
 | [],vs,n+1,h=>by unfold aV at h;subst h;simp;unfold aV;rfl
 | d::ds,vs,n+1,h=>by unfold aV at h;obtain⟨x,r,rfl,h1,h2⟩:=h;simp only[List.take_succ_cons];unfold aV;exact⟨x,_,rfl,h1,aV.take n h2⟩
theorem aV.drop:∀{ds:List D}{vs:List V}(n:Nat),aV K ads H ds vs->aV K ads H (ds.drop n) (vs.drop n)
 | _,_,0,h=>by simpa using h
 | [],vs,n+1,h=>by unfold aV at h;subst h;simp;unfold aV;rfl
 | d::ds,vs,n+1,h=>by unfold aV at h;obtain⟨x,r,rfl,h1,h2⟩:=h;simp only[List.drop_succ_cons];exact aV.drop n h2
theorem aV.setAt:∀{ds:List D}{vs:List V}(n:Nat){d:D}{v:V},aV K ads H ds vs->RD K ads H d v->aV K ads H (ds.set n d) (vs.set n v)
 | [],vs,n,_,_,h,_=>by unfold aV at h;subst h;simp;unfold aV;rfl
 | d::ds,vs,0,_,_,h,k=>by unfold aV at h;obtain⟨x,r,rfl,h1,h2⟩:=h;simp only[List.set_cons_zero];unfold aV;exact⟨_,_,rfl,k,h2⟩
 | d::ds,vs,n+1,_,_,h,k=>by unfold aV at h;obtain⟨x,r,rfl,h1,h2⟩:=h;simp only[List.set_cons_succ];unfold aV;exact⟨_,_,rfl,h1,aV.setAt n h2 k⟩
theorem aU.grow{M:ag}(m:aU K ads H M)(g:ay ads ads H H')(k:∀a∈ads,H' a=H a):aU K ads H' M:=⟨m.nd,m.len,λn o a e1 e2=>by
 have h:=m.obj n o a e1 e2;have ha:=k a (fw e2)
 cases o with
 | lst ds=>obtain⟨xs,h,r⟩:=h;exact⟨xs,ha.trans h,g.oV _ _ r⟩
 | kF ds=>obtain⟨o,xs,h,r⟩:=h;exact⟨o,xs,ha.trans h,g.oV _ _ r⟩
 | dK ds=>obtain⟨xs,h,r⟩:=h;exact⟨xs,ha.trans h,g.F9 _ _ r⟩
 | dT ds=>obtain⟨xs,h,r⟩:=h;exact⟨xs,ha.trans h,g.F9 _ _ r⟩
 | dF ds=>obtain⟨o,xs,h,r⟩:=h;exact⟨o,xs,ha.trans h,g.F9 _ _ r⟩⟩
theorem aU.there{M:ag}(m:aU K ads H M){a:Addr}(h:a∈ads):∃o,H a=some o/\∀xs,o≠.tup xs:=by
 obtain⟨n,hn,e⟩:=EI.mp h;have e2:ads[n]?=some a:=by rw[bZ hn,e]
 have hM:n<M.length:=by rw[<- m.len];exact hn
 have h:=m.obj n M[n] a (bZ hM) e2
 cases q:M[n]with
 | lst ds=>rw[q]at h;obtain⟨xs,h,r⟩:=h;exact⟨_,h,λ_ z=>by cases z⟩
 | kF ds=>rw[q]at h;obtain⟨o,xs,h,r⟩:=h;exact⟨_,h,λ_ z=>by cases z⟩
 | dK ds=>rw[q]at h;obtain⟨xs,h,r⟩:=h;exact⟨_,h,λ_ z=>by cases z⟩
 | dT ds=>rw[q]at h;obtain⟨xs,h,r⟩:=h;exact⟨_,h,λ_ z=>by cases z⟩
 | dF ds=>rw[q]at h;obtain⟨o,xs,h,r⟩:=h;exact⟨_,h,λ_ z=>by cases z⟩
theorem aU.fresh{M:ag}(m:aU K ads H M){p:Addr}(h:H p=none):p∉ads:=λz=>by
 obtain⟨o,e,_⟩:=m.there z;rw[h]at e;cases e
theorem ay.dR{M:ag}(m:aU K ads H M){p:Addr}{o:HO}(h:H p=none):ay ads ads H (bu H p o) :=
 ⟨⟨[],by simp⟩,λb h n=>absurd h n,λb u n e=>by rw[aq (λz=>by subst z;rw[h]at e;cases e)];exact e,λb xs e=>by rw[aq (λz=>by subst z;rw[h]at e;cases e)];exact e,λb u x e=>by rw[aq (λz=>by subst z;rw[h]at e;cases e)];exact e⟩
theorem aU.dR{M:ag}(m:aU K ads H M){p:Addr}{o:HO}(h:H p=none):aU K ads (bu H p o) M :=
 m.grow (ay.dR m h) λa ha=>aq (λz=>by subst z;exact m.fresh h ha)
theorem Ci{α:Type}{l:List α}(h:l.Nodup){i j:Nat}{x:α}(a:l[i]?=some x)(b:l[j]?=some x):i=j:=by
 obtain⟨h1,e1⟩:=bG.mp a;obtain⟨h2,e2⟩:=bG.mp b;rcases Nat.lt_trichotomy i j with q | q | q
 ·exact absurd (e1.trans e2.symm) (Jh.mp h i j h1 h2 q)
 ·exact q
 ·exact absurd (e2.trans e1.symm) (Jh.mp h j i h2 h1 q)
theorem ay.own{M:ag}(m:aU K ads H M){a:Addr}{xs:List V}(h:H a=some (.lst xs))(n:a∉ads):∀b∈ads++[a],b∉ads->b=a:=λb hb nb=>by
 rcases eV.mp hb with z | z
 ·exact absurd z nb
 ·simpa using z
mutual
theorem RD.wide{a:Addr}:∀(d:D)(v:V),RD K ads H d v->RD K (ads++[a]) H d v
 | .aL,_,h=>by unfold RD at *;exact h
 | .bl _,_,h=>by unfold RD at *;exact h
 | .int _,_,h=>by unfold RD at *;exact h
 | .str _,_,h=>by unfold RD at *;exact h
 | .aw n,v,h=>by
  unfold RD at *;obtain⟨b,e,h⟩:=h;exact⟨b,e,by rw[kG (bG.mp h).1];exact h⟩
 | .tup ds,v,h=>by unfold RD at *;obtain⟨b,xs,e,h,r⟩:=h;exact⟨b,xs,e,h,aV.wide ds xs r⟩
 | .ls ds,v,h=>by unfold RD at *;obtain⟨b,xs,e,h,r⟩:=h;exact⟨b,xs,e,h,aV.wide ds xs r⟩
theorem aV.wide{a:Addr}:∀(ds:List D)(vs:List V),aV K ads H ds vs->aV K (ads++[a]) H ds vs
 | [],_,h=>by unfold aV at *;exact h
 | d::ds,vs,h=>by unfold aV at *;obtain⟨x,r,e,h1,h2⟩:=h;exact⟨x,r,e,RD.wide d x h1,aV.wide ds r h2⟩
end
theorem bW.wide{κ:Type}{a:Addr}:∀(ds:List (κ×D))(vs:List (κ×V)),bW K ads H ds vs->bW K (ads++[a]) H ds vs
 | [],_,h=>by unfold bW at *;exact h
 | d::ds,vs,h=>by unfold bW at *;obtain⟨x,r,e,h0,h1,h2⟩:=h;exact⟨x,r,e,h0,RD.wide d.2 x.2 h1,bW.wide ds r h2⟩
theorem NJ.wide{a b:Addr}{o:MO}(h:NJ K ads H b o):NJ K (ads++[a]) H b o:=by
 cases o with
 | lst ds=>obtain⟨xs,h,r⟩:=h;exact⟨xs,h,r.wide⟩
 | kF ds=>obtain⟨o,xs,h,r⟩:=h;exact⟨o,xs,h,r.wide⟩
 | dK ds=>obtain⟨xs,h,r⟩:=h;exact⟨xs,h,r.wide⟩
 | dT ds=>obtain⟨xs,h,r⟩:=h;exact⟨xs,h,r.wide⟩
 | dF ds=>obtain⟨o,xs,h,r⟩:=h;exact⟨o,xs,h,r.wide⟩
theorem aU.push{M:ag}{o:MO}{a:Addr}(m:aU K ads H M)(n:a∉ads)(h:NJ K ads H a o):aU K (ads++[a]) H (M++[o]) where
  nd:=by
    rw[List.nodup_append]
    exact ⟨m.nd, by simp, fun x hx y hy => by have : y = a := by simpa using hy
                                              subst this;exact λz=>n (z▸hx)⟩
  len:=by simp[m.len]
  obj:=λi o' b e1 e2=>by
    by_cases hi:i<M.length
    · rw[kG hi]at e1;rw[kG (by rw[m.len];exact hi)]at e2;exact(m.obj i o' b e1 e2).wide
    · have Zq : i = M.length := by
        have:=(bG.mp e1).1;simp at this;omega
      subst Zq;rw[sH (aE _)]at e1;rw[sH (by rw[m.len];exact aE _)]at e2;simp[m.len]at e1 e2;subst e1 e2;exact h.wide
theorem aU.write{M:ag}{n:Nat}{a:Addr}{u o:MO}{ho:HO}(m:aU K ads H M)(e:M[n]?=some u)(ea:ads[n]?=some a)(nf:∀o x,H a≠some (.gW o x))(hn:NJ K ads (bu H a ho) a o):ay ads ads H (bu H a ho)/\aU K ads (bu H a ho) (M.set n o):=by
  have B7:a∈ads:=fw ea;obtain⟨o1,e1,nt⟩:=m.there B7
  have g : ay ads ads H (bu H a ho) := ⟨⟨[], by simp⟩, fun b h n => absurd h n, fun b x nb h => by rw [aq (by intro z; subst z; exact nb B7)]; exact h, fun b xs h => by
      rw[aq (λz=>by subst z;rw[e1]at h;exact nt xs (cR h))];exact h,λb o u h=>by rw[aq (λz=>by subst z;exact nf _ _ h)];exact h⟩
  refine⟨g,m.nd,by rw[ja];exact m.len,λi o' b x1 x2=>?_⟩;by_cases hi:i=n
  · subst hi;rw[ea]at x2;cases x2;rw[mH (bG.mp e).1]at x1;cases x1;exact hn
  · rw[kH (cN hi)]at x1
    have hb:b≠a:=λz=>by
      subst z;exact hi (Ci m.nd x2 ea)
    have h:=m.obj i o' b x1 x2
    cases o' with
    | lst ds=>obtain⟨xs,h,r⟩:=h;exact⟨xs,by rw[aq hb];exact h,g.oV _ _ r⟩
    | kF ds=>obtain⟨o,xs,h,r⟩:=h;exact⟨o,xs,by rw[aq hb];exact h,g.oV _ _ r⟩
    | dK ds=>obtain⟨xs,h,r⟩:=h;exact⟨xs,by rw[aq hb];exact h,g.F9 _ _ r⟩
    | dT ds=>obtain⟨xs,h,r⟩:=h;exact⟨xs,by rw[aq hb];exact h,g.F9 _ _ r⟩
    | dF ds=>obtain⟨o,xs,h,r⟩:=h;exact⟨o,xs,by rw[aq hb];exact h,g.F9 _ _ r⟩
end
mutual
noncomputable def cB(M:ag):Nat->D->Option PyData
 | _,.aL=>some .none
 | _,.bl b=>some (.bool b)
 | _,.int i=>some (.int i)
 | _,.str s=>some (.str s)
 | 0,.tup _=>none
 | 0,.aw _=>none
 | 0,.ls _=>none
 | n+1,.ls ds=>(bp M n ds).map .list
 | n+1,.tup ds=>(bp M n ds).map .tuple
 | n+1,.aw k=>match M[k]? with
  | some (.lst ds)=>(bp M n ds).map .list
  | some (.kF ds)=>(bp M n ds).map .list
  | _=>none
noncomputable def bp(M:ag):Nat->List D->Option (List PyData)
 | _,[]=>some []
 | n,d::ds=>match cB M n d,bp M n ds with
  | some p,some ps=>some (p::ps)
  | _,_=>none
end
def gS(M:ag):W->Option PyData
 | .d x=>cB M 30 x
 | .lv ds=>(bp M 30 ds).map .list
inductive El where
 | add | sub | mul | fdiv | mod | pow
 deriving DecidableEq
inductive zK where
 | eq | ne | lt | le | gt | ge | qT | fy | isin | cT
 deriving DecidableEq
inductive Ty where
 | int | bool | str | tuple | list | dict | none
 deriving DecidableEq
inductive Bi where
 | len | max2 | min2 | qU | list1 | tuple1 | fC | pL (t:Ty) | all1 | F_ | pM | min1 | Ga | xR
 deriving DecidableEq
inductive Me where
 | append | insert | reverse | extend | remove | clear | pop
 deriving DecidableEq
inductive SK where
 | seq | fT | Cj | enum | zip | Gb | keys | vals
 deriving DecidableEq
mutual
inductive C where
 | dH (i:Nat)
 | bb (d:D)
 | bin (op:El) (a b:C)
 | cmp (op:zK) (a b:C)
 | chain (o1 o2:zK) (a b c:C)
 | eC (cs:List C) | gj (cs:List C) | neg (a:C)
 | ite (c:eN) (a b:C)
 | tup (cs:List C) | lst (cs:List C)
 | sub (a b:C)
 | jz (a:C) (lo hi:Option C)
 | Aw (a:C) (k:Int)
 | call (f:Nat) (cs:List C)
 | bi (b:Bi) (cs:List C)
 | me (m:Me) (o:C) (cs:List C)
 | zF (ks:List Str) (cs:List C)
 | lB (tp:Bool) (cs:List C)
 | Gd (x:Str) (v:Int)
 | gD (ng:Bool) (a:C)
 | comp (k:SK) (dC:List C) (tg:List Nat) (cond:Option eN) (elt:C) (cO:List (Option Nat))
inductive eN where
 | val (c:C) | eC (ts:List eN) | gj (ts:List eN) | neg (a:eN)
end
instance (n:Nat):OfNat C n:=⟨.dH n⟩
abbrev C.kn(k:Int):C:=.bb (.int k)
abbrev C.ks(i:Nat)(k:Int):C:=.sub (.dH i) (.bb (.int k))
noncomputable def bF(M:ag):W->Option (Bool×List D)
 | .lv ds=>some (true,ds)
 | .d (.tup ds)=>some (false,ds)
 | .d (.ls ds)=>some (true,ds)
 | .d (.aw n)=>match M[n]? with
  | some (.lst ds)=>some (true,ds)
  | some (.kF ds)=>some (true,ds)
  | _=>none
 | _=>none
noncomputable def fi(M:ag):W->Option (List D)
 | .lv ds=>some ds
 | .d (.aw n)=>match M[n]? with
  | some (.lst ds)=>some ds
  | _=>none
 | _=>none
noncomputable def own:W->ag->bS D
 | .d x,M=>.ok x M
 | .lv ds,M=>.ok (.aw M.length) (M++[.lst ds])
def Sl(ds:List D)(i:Int):Option D:=xH ds i
def cutD(ds:List D)(lo hi:Option Int):List D:=(ds.drop (HT.dG ds.length 0 lo)).take (HT.dG ds.length ds.length hi-HT.dG ds.length 0 lo)
def kU(op:El)(a b:W)(M:ag):bS W :=
 match op,a,b with
 | .add,.d (.int i),.d (.int j)=>.ok (.d (.int (i+j))) M
 | .sub,.d (.int i),.d (.int j)=>.ok (.d (.int (i-j))) M
 | .mul,.d (.int i),.d (.int j)=>if (-(2 ^ 64)<i/\i<2 ^ 64)\/(-(2 ^ 64)<j/\j<2 ^ 64) then .ok (.d (.int (i*j))) M else .af
 | .fdiv,.d (.int i),.d (.int j)=>if 0<j/\j<1073741824 then .ok (.d (.int (i / j))) M else .af
 | .mod,.d (.int i),.d (.int j)=>if 0<j then .ok (.d (.int (i % j))) M else .af
 | .pow,.d (.int i),.d (.int j)=>if 0<=j/\j<=1000000/\i.natAbs<2 ^ 64 then .ok (.d (.int (i ^ j.toNat))) M else .af
 | .add,.d (.tup xs),.d (.tup ys)=>if xs.length+ys.length<=sizeLine then .ok (.d (.tup (xs++ys))) M else .af
 | .add,a,b=>match fi M a,fi M b with
  | some xs,some ys=>if xs.length+ys.length<=sizeLine then .ok (.lv (xs++ys)) M else .af
  | _,_=>.af
 | .mul,a,.d (.int k)=>match fi M a with
  | some xs=>if -(2 ^ 63)<=k/\k<2 ^ 63/\xs.length*k.toNat<=sizeLine then .ok (.lv (List.replicate k.toNat xs).flatten) M else .af
  | none=>.af
 | _,_,_=>.af
noncomputable def ia(p:PyData):List PyData->Bool
 | []=>false
 | q::qs=>PyData.eqv q p||ia p qs
noncomputable def iK(M:ag):W->Option (List (bD×D))
 | .d (.aw n)=>match M[n]? with
  | some (.dK au)=>some au
  | _=>none
 | _=>none
noncomputable def vZ:W->Option bD
 | .d (.int i)=>some (Sum.inl i)
 | .d (.str s)=>some (Sum.inr s)
 | _=>none
noncomputable def jS{κ:Type}[DecidableEq κ](au:List (κ×D))(k:κ):Option D:=(au.find? λp=>decide (p.1=k)).map (·.2)
def v5(M:ag)(kb:List (bD×D)):List (bD×D)->Option Bool
 | []=>some true
 | (k,v)::r=>match jS kb k with
  | none=>some false
  | some y=>match cB M 30 v,cB M 30 y with
   | some p,some q=>if SeqAt.shaped p=true/\SeqAt.shaped q=true then (v5 M kb r).map (PyData.eqv p q && ·) else none
   | _,_=>none
def aZ(op:zK)(a b:W)(M:ag):bS Bool :=
 match op with
 | .eq=>match gS M a,gS M b with
  | some p,some q=>if SeqAt.shaped p=true/\SeqAt.shaped q=true then .ok (PyData.eqv p q) M else .af
  | _,_=>match iK M a,iK M b with
   | some ka,some kb=>match v5 M kb ka with
    | some r=>.ok (ka.length==kb.length&&r) M
    | none=>.af
   | _,_=>.af
 | .ne=>match gS M a,gS M b with
  | some p,some q=>if SeqAt.shaped p=true/\SeqAt.shaped q=true then .ok (!PyData.eqv p q) M else .af
  | _,_=>.af
 | .lt=>match a,b with
  | .d (.int i),.d (.int j)=>.ok (decide (i<j)) M
  | .d (.str x),.d (.str y)=>.ok (decide (x.cps.toList<y.cps.toList)) M
  | _,_=>.af
 | .le=>match a,b with
  | .d (.int i),.d (.int j)=>.ok (decide (i<=j)) M
  | .d (.str x),.d (.str y)=>.ok (!decide (y.cps.toList<x.cps.toList)) M
  | _,_=>.af
 | .gt=>match a,b with
  | .d (.int i),.d (.int j)=>.ok (decide (j<i)) M
  | _,_=>.af
 | .ge=>match a,b with
  | .d (.int i),.d (.int j)=>.ok (decide (j<=i)) M
  | _,_=>.af
 | .qT=>match a with
  | .d .aL=>.ok true M
  | _=>.ok false M
 | .fy=>match a with
  | .d .aL=>.ok false M
  | _=>.ok true M
 | .isin=>match gS M a,bF M b with
  | some p,some (_,ds)=>match bp M 30 ds with
   | some qs=>if SeqAt.shaped p=true/\qs.all SeqAt.shaped=true then .ok (ia p qs) M else .af
   | none=>.af
  | _,none=>match vZ a,iK M b with
   | some k,some au=>.ok (jS au k).isSome M
   | _,_=>.af
  | _,_=>.af
 | .cT=>match gS M a,bF M b with
  | some p,some (_,ds)=>match bp M 30 ds with
   | some qs=>if SeqAt.shaped p=true/\qs.all SeqAt.shaped=true then .ok (!ia p qs) M else .af
   | none=>.af
  | _,none=>match vZ a,iK M b with
   | some k,some au=>.ok (!(jS au k).isSome) M
   | _,_=>.af
  | _,_=>.af
def oW(M:ag):W->Option Bool
 | .d .aL=>some false
 | .d (.bl b)=>some b
 | .d (.int i)=>some (i != 0)
 | w=>(bF M w).map λp=>!p.2.isEmpty
def dh(a b:W)(M:ag):bS W :=
  match b with
  | .d (.int i)=>match bF M a with
    | some (_,ds)=>match Sl ds i with
      | some d=>.ok (.d d) M
      | none=>.af
    | none=>match a with
      | .d (.str s) => if s.length <= sizeLine then match xH s.cps.toList i with
          | some c=>.ok (.d (.str ⟨#[c]⟩)) M
          | none=>.af
        else .af
      | .d (.aw n)=>match M[n]? with
        | some (.dK au)=>match jS au (Sum.inl i:bD)with
          | some d=>.ok (.d d) M
          | none=>.af
        | _=>.af
      | _=>.af
  | .d (.str k)=>match a with
    | .d (.aw n)=>match M[n]? with
      | some (.dK au)=>match (au.find? λp=>decide (p.1=(Sum.inr k:bD))).map (·.2)with
        | some d=>.ok (.d d) M
        | none=>.af
      | _=>.af
    | _=>.af
  | _=>.af
def ib(a:W)(lo hi:Option Int)(M:ag):bS W :=
 match bF M a with
 | some (true,ds)=>.ok (.lv (cutD ds lo hi)) M
 | some (false,ds)=>if HT.dG ds.length 0 lo=0/\HT.dG ds.length ds.length hi=ds.length then .af else .ok (.d (.tup (cutD ds lo hi))) M
 | none=>.af
def Zr:W->Option Int
 | .d (.int i)=>some i
 | _=>none
noncomputable def Ge(M:ag):W->Option Ty
 | .lv _=>some .list
 | .d .aL=>some .none
 | .d (.bl _)=>some .bool
 | .d (.int _)=>some .int
 | .d (.str _)=>some .str
 | .d (.tup _)=>some .tuple
 | .d (.ls _)=>none
 | .d (.aw n)=>match M[n]? with
  | some (.lst _)=>some .list
  | some (.kF _)=>some .list
  | some (.dK _)=>some .dict
  | some (.dT _)=>some .dict
  | some (.dF _)=>none
  | none=>none
noncomputable def KI:List D->Option (List Bool)
 | []=>some []
 | .bl b::ds=>(KI ds).map (b::·)
 | _::_=>none
noncomputable def tY:List D->Option (List Int)
 | []=>some []
 | .int b::ds=>(tY ds).map (b::·)
 | _::_=>none
noncomputable def dI{α:Type}(xs:List α)(k:Int):List α:=(List.range (Builtin.Slice.slicePlaces (Builtin.Slice.sliceAdjust none none k (xs.length:Int)).1 (Builtin.Slice.sliceAdjust none none k (xs.length:Int)).2 k)).filterMap λ(j:Nat)=>xs[((Builtin.Slice.sliceAdjust none none k (xs.length:Int)).1+(j:Int)*k).toNat]?
def kW(a:W)(k:Int)(M:ag):bS W :=
 match a with
 | .d (.tup ds)=>if (k=2\/k=-1)/\(dI ds k).length<=sizeLine then .ok (.d (.tup (dI ds k))) M else .af
 | _=>.af
noncomputable def nj{κ:Type}[DecidableEq κ](au:List (κ×D))(k:κ)(v:D):List (κ×D) :=
 if (au.any λkv=>decide (kv.1=k))=true then au.map (λkv=>if kv.1=k then (kv.1,v) else kv) else au++[(k,v)]
noncomputable def pairD:D->Option (bD×D)
 | .tup [.int i,d]=>some (Sum.inl i,d)
 | .tup [.str x,d]=>some (Sum.inr x,d)
 | _=>none
def zL(acc:List (bD×D)):List D->Option (List (bD×D))
 | []=>some acc
 | d::ds=>match pairD d with
  | some (k,x)=>zL (nj acc k x) ds
  | none=>none
def iL(b:Bi)(ws:List W)(M:ag):bS W :=
 match b,ws with
 | .len,[w]=>match bF M w with
  | some (_,ds)=>.ok (.d (.int ds.length)) M
  | none=>match w with
   | .d (.str x)=>if x.length<=sizeLine then .ok (.d (.int x.length)) M else .af
   | _=>.af
 | .all1,[w]=>match bF M w with
  | some (_,ds)=>match KI ds with
   | some bs=>.ok (.d (.bl (bs.all id))) M
   | none=>.af
  | none=>.af
 | .F_,[w]=>match bF M w with
  | some (_,ds)=>match KI ds with
   | some bs=>.ok (.d (.bl (bs.any id))) M
   | none=>.af
  | none=>.af
 | .xR,[w]=>match bF M w with
  | some (true,ds)=>match tY ds with
   | some is=>if is.length<64 then .ok (.lv ((L2.PC is).map D.int)) M else .af
   | none=>.af
  | _=>.af
 | .min1,[w]=>match bF M w with
  | some (_,ds)=>match tY ds with
   | some (i::is)=>.ok (.d (.int (is.foldl (λa b=>if b<a then b else a) i))) M
   | _=>.af
  | none=>.af
 | .Ga,[w]=>match bF M w with
  | some (_,ds)=>match tY ds with
   | some (i::is)=>.ok (.d (.int (is.foldl (λa b=>if a<b then b else a) i))) M
   | _=>.af
  | none=>.af
 | .max2,[.d (.int i),.d (.int j)]=>.ok (.d (.int (if j>i then j else i))) M
 | .min2,[.d (.int i),.d (.int j)]=>.ok (.d (.int (if j<i then j else i))) M
 | .qU,[.d (.int i)]=>.ok (.d (.int i)) M
 | .qU,[.d (.bl k)]=>.ok (.d (.int (if k then 1 else 0))) M
 | .list1,[w]=>match bF M w with
  | some (_,ds)=>.ok (.lv ds) M
  | none=>.af
 | .tuple1,[w]=>match bF M w with
  | some (_,ds)=>.ok (.d (.tup ds)) M
  | none=>.af
 | .fC,[w]=>match gS M w with
  | some p=>if p.showable=true/\p.depth<=40/\p.shown.length<=sizeLine then .ok (.d (.str p.shown)) M else .af
  | none=>.af
 | .pM,[w]=>match iK M w with
  | some au=>.ok (.d (.aw M.length)) (M++[.dK au])
  | none=>match bF M w with
   | some (true,ds)=>match zL [] ds with
    | some au=>.ok (.d (.aw M.length)) (M++[.dK au])
    | none=>.af
   | _=>.af
 | .pL t,[w]=>match Ge M w with
  | some g=>.ok (.d (.bl (decide (g=t)||(decide (g=.bool)&&decide (t=.int))))) M
  | none=>.af
 | _,_=>.af
noncomputable def v7:List W->Option (Int×Int)
 | [.d (.int i),.d (.int j)]=>some (i,j)
 | [.d (.int j)]=>some (0,j)
 | _=>none
noncomputable def PQ(i:Int)(n:Nat):List D:=(List.range n).map λk=>D.int (i+((k:Nat):Int))
noncomputable def Ck(tp:Bool)(ds:List D):W:=if tp=true then .d (.tup ds) else .lv ds
def Gf(tp:Bool)(ws:List W)(M:ag):bS W:=match v7 ws with
 | some (i,j)=>if (-(2 ^ 62)<=i/\i<2 ^ 62/\-(2 ^ 62)<=j/\j<2 ^ 62)/\(j-i).toNat<=2 ^ 24 then .ok (Ck tp (PQ i (j-i).toNat)) M else .af
 | none=>.af
def v8(m:Me)(o:W)(ws:List D)(M:ag):bS W :=
 match o with
 | .d (.aw n)=>match M[n]? with
  | some (.lst ds)=>match m,ws with
   | .append,[x]=>if ds.length<sizeLine then .ok (.d .aL) (M.set n (.lst (ds++[x]))) else .af
   | .insert,[.int i,x]=>if ds.length<sizeLine/\0<=i/\i<=ds.length then .ok (.d .aL) (M.set n (.lst (ds.take i.toNat++x::ds.drop i.toNat))) else .af
   | .reverse,[]=>.ok (.d .aL) (M.set n (.lst ds.reverse))
   | .clear,[]=>.ok (.d .aL) (M.set n (.lst []))
   | .pop,[]=>match ds[ds.length-1]? with
    | some d=>.ok (.d d) (M.set n (.lst ds.dropLast))
    | none=>.af
   | .extend,[.aw k]=>match M[k]? with
    | some (.lst es)=>if ds.length+es.length<=sizeLine then .ok (.d .aL) (M.set n (.lst (ds++es))) else .af
    | _=>.af
   | .extend,[.tup es]=>if ds.length+es.length<=sizeLine then .ok (.d .aL) (M.set n (.lst (ds++es))) else .af
   | .remove,[.int i]=>match tY ds with
    | some is=>if i∈is then .ok (.d .aL) (M.set n (.lst ((is.erase i).map D.int))) else .af
    | none=>.af
   | _,_=>.af
  | _=>.af
 | _=>.af
inductive Z1 where
 | items (ds:List D) | at (n:Nat)
noncomputable def Gg(M:ag):Z1->Option (List D)
 | .items ds=>some ds
 | .at n=>match M[n]? with
  | some (.lst ds)=>some ds
  | some (.kF ds)=>some ds
  | _=>none
def W2(M:ag):W->Option Z1
 | .lv ds=>some (.items ds)
 | .d (.tup ds)=>some (.items ds)
 | .d (.ls ds)=>some (.items ds)
 | .d (.aw n)=>if (bF M (.d (.aw n))).isSome then some (.at n) else none
 | _=>none
noncomputable def PR(xs ys:List D)(i:Nat):Option D:=match xs[i]?,ys[i]? with
 | some x,some y=>some (.tup [x,y])
 | _,_=>none
inductive It where
 | at (n:Nat) | items (ds:List D) | lB (lo:Int) (n:Nat) | jh (n:Nat) | gE (ds:List D) | zip (a b:Z1)
def itemAt(M:ag)(i:Nat):It->Option (Option D)
 | .at n=>match M[n]? with
  | some (.lst ds)=>some ds[i]?
  | some (.kF ds)=>some ds[i]?
  | _=>none
 | .items ds=>some ds[i]?
 | .lB lo n=>some (if i<n then some (.int (lo+i)) else none)
 | .jh n=>match M[n]? with
  | some (.lst ds)=>some (ds[i]?.map λd=>.tup [.int i,d])
  | some (.kF ds)=>some (ds[i]?.map λd=>.tup [.int i,d])
  | _=>none
 | .gE ds=>some (ds[i]?.map λd=>.tup [.int i,d])
 | .zip a b=>match Gg M a,Gg M b with
  | some xs,some ys=>some (PR xs ys i)
  | _,_=>none
def dj(M:ag):It->Nat
 | .at n=>match M[n]? with
  | some (.lst ds)=>ds.length
  | some (.kF ds)=>ds.length
  | _=>0
 | .items ds=>ds.length
 | .lB _ n=>n
 | .jh n=>match M[n]? with
  | some (.lst ds)=>ds.length
  | some (.kF ds)=>ds.length
  | _=>0
 | .gE ds=>ds.length
 | .zip a b=>match Gg M a,Gg M b with
  | some xs,some ys=>min xs.length ys.length
  | _,_=>0
def kD:bD->D
 | .inl i=>.int i
 | .inr x=>.str x
def PU(p:List bD×D):D:=.tup (p.1.map kD)
noncomputable def Cm:List D->Option (List bD)
 | []=>some []
 | .int i::ds=>(Cm ds).map (Sum.inl i::·)
 | .str x::ds=>(Cm ds).map (Sum.inr x::·)
 | _::_=>none
def U6:W->Option (List bD)
 | .d (.tup ds)=>Cm ds
 | _=>none
noncomputable def dtW(M:ag):W->Option (List (List bD×D))
 | .d (.aw n)=>match M[n]? with
  | some (.dT au)=>some au
  | some (.dF au)=>some au
  | _=>none
 | _=>none
noncomputable def W3(a:W)(M:ag):bS W:=match a with
 | .d (.aw n)=>match M[n]? with
  | some (.dT _)=>.ok (.d .aL) (M.set n (.dT []))
  | _=>.af
 | _=>.af
def xS(a b:W)(d:D)(M:ag):bS Unit:=match a with
 | .d (.aw n)=>match M[n]?,U6 b with
  | some (.dT au),some k=>if au.length<sizeLine then .ok () (M.set n (.dT (nj au k d))) else .af
  | _,_=>.af
 | _=>.af
noncomputable def U7(i:Int)(n:Nat):List D:=(List.range n).map λk=>.int (i-(k:Nat))
def jT(k:SK)(ws:List W)(M:ag):bS It :=
 match k,ws with
 | .seq,[.lv ds]=>.ok (.items ds) M
 | .seq,[.d (.tup ds)]=>.ok (.items ds) M
 | .seq,[.d (.ls ds)]=>.ok (.items ds) M
 | .seq,[.d (.aw n)]=>if (bF M (.d (.aw n))).isSome then .ok (.at n) M else .af
 | .fT,[.d (.int j)]=>if -(2 ^ 62)<=j/\j<2 ^ 62 then .ok (.lB 0 j.toNat) M else .af
 | .Cj,[.d (.int i),.d (.int j)]=>if -(2 ^ 62)<=i/\i<2 ^ 62/\-(2 ^ 62)<=j/\j<2 ^ 62 then .ok (.lB i (j-i).toNat) M else .af
 | .enum,[.lv ds]=>.ok (.gE ds) M
 | .enum,[.d (.tup ds)]=>.ok (.gE ds) M
 | .enum,[.d (.ls ds)]=>.ok (.gE ds) M
 | .enum,[.d (.aw n)]=>if (bF M (.d (.aw n))).isSome then .ok (.jh n) M else .af
 | .Gb,[.d (.int i),.d (.int j),.d (.int k)]=>if k=-1/\-(2 ^ 62)<=i/\i<2 ^ 62/\-(2 ^ 62)<=j/\j<2 ^ 62 then .ok (.items (U7 i (i-j).toNat)) M else .af
 | .keys,[.d (.aw n)]=>match M[n]? with
  | some (.dT au)=>.ok (.items (au.map PU)) (M.set n (.dF au))
  | some (.dF au)=>.ok (.items (au.map PU)) M
  | _=>.af
 | .vals,[.d (.aw n)]=>match M[n]? with
  | some (.dT au)=>.ok (.items (au.map (·.2))) (M.set n (.dF au))
  | some (.dF au)=>.ok (.items (au.map (·.2))) M
  | _=>.af
 | .zip,[u,v]=>match W2 M u,W2 M v with
  | some a,some b=>.ok (.zip a b) M
  | _,_=>.af
 | _,_=>.af
noncomputable def dY(tg:List Nat)(ds:List D)(ρ:En):Option En :=
 match tg,ds with
 | [],[]=>some ρ
 | i::tg,d::ds=>dY tg ds (ρ.set i (some d))
 | _,_=>none
def bH(tg:List Nat)(d:D)(ρ:En):Option En :=
 match tg with
 | [i]=>some (ρ.set i (some d))
 | _=>match d with
  | .tup ds=>dY tg ds ρ
  | _=>none
abbrev a_:=Nat->List D->ag->bS W
def eT(cO:List (Option Nat))(ρ:En):En:=cO.map λo=>o.bind λj=>(ρ[j]?).join
def bc(cond:En->ag->bS Bool)(elt:En->ag->bS D)(it:It)(tg:List Nat):Nat->Nat->En->ag->List D->bS W
  | 0,i,_,M,acc=>match itemAt M i it with
    | some none=>.ok (.lv acc) M
    | _=>.af
  | f+1,i,τ,M,acc=>match itemAt M i it with
    | some none=>.ok (.lv acc) M
    | some (some d)=>match bH tg d τ with
      | none=>.af
      | some τ => if acc.length < sizeLine then
          (cond τ M).b0 λb M=>if b then (elt τ M).b0 λx M=>bc cond elt it tg f (i+1) τ M (acc++[x]) else bc cond elt it tg f (i+1) τ M acc
        else .af
    | none=>.af
noncomputable def xT(ng:Bool)(x:W)(M:ag):bS W:=match x with
 | .d (.bl b)=>.ok (.d (.bl (ng != b))) M
 | _=>.af
mutual
noncomputable def ev(G:a_):C->En->ag->bS W
  | .dH i,ρ,M=>match ρ[i]? with
    | some (some d)=>.ok (.d d) M
    | _=>.af
  | .bb d,_,M=>.ok (.d d) M
  | .bin op a b,ρ,M=>(ev G a ρ M).bind λx M=>(ev G b ρ M).bind λy M=>kU op x y M
  | .cmp op a b,ρ,M=>(ev G a ρ M).bind λx M=>(ev G b ρ M).bind λy M=>(aZ op x y M).bind λr M=>.ok (.d (.bl r)) M
  | .chain o1 o2 a b c, ρ, M => (ev G a ρ M).bind fun x M => (ev G b ρ M).bind fun y M => (aZ o1 x y M).bind fun r M =>
      if r then (ev G c ρ M).bind λz M=>(aZ o2 y z M).bind λr M=>.ok (.d (.bl r)) M else .ok (.d (.bl false)) M
  | .eC cs,ρ,M=>iS G cs ρ M
  | .gj cs,ρ,M=>oX G cs ρ M
  | .neg a,ρ,M=>(ev G a ρ M).bind λx M=>match x with
    | .d (.bl r)=>.ok (.d (.bl (!r))) M
    | _=>.af
  | .ite c a b,ρ,M=>(d_ G c ρ M).bind λr M=>if r then ev G a ρ M else ev G b ρ M
  | .tup cs,ρ,M=>(bB G cs ρ M).bind λds M=>if ds.length<=sizeLine then .ok (.d (.tup ds)) M else .af
  | .lst cs,ρ,M=>(bB G cs ρ M).bind λds M=>if ds.length<=sizeLine then .ok (.lv ds) M else .af
  | .sub a b,ρ,M=>(ev G a ρ M).bind λx M=>(ev G b ρ M).bind λy M=>dh x y M
  | .jz a lo hi,ρ,M=>(ev G a ρ M).bind λx M=>(sE G lo ρ M).bind λl M=>(sE G hi ρ M).bind λh M=>ib x l h M
  | .Aw a k,ρ,M=>(ev G a ρ M).bind λx M=>kW x k M
  | .call f cs,ρ,M=>(bB G cs ρ M).bind λds M=>G f ds M
  | .bi b cs,ρ,M=>(dk G cs ρ M).bind λws M=>iL b ws M
  | .me m o cs,ρ,M=>(ev G o ρ M).bind λx M=>if (fi M x).isSome then (bB G cs ρ M).bind λds M=>v8 m x ds M else .af
  | .zF ks cs,ρ,M=>(bB G cs ρ M).bind λds M=>if ks.length=ds.length then .ok (.d (.aw M.length)) (M++[.dK ((ks.map Sum.inr).zip ds)]) else .af
  | .lB tp cs,ρ,M=>(dk G cs ρ M).bind λws M=>Gf tp ws M
  | .Gd _ v,_,M=>.ok (.d (.int v)) M
  | .gD ng a,ρ,M=>(ev G a ρ M).bind λx M=>xT ng x M
  | .comp k dC tg cond elt cO, ρ, M => (dk G dC ρ M).bind fun ws M => (jT k ws M).bind fun it M =>
      bc (λτ M=>bI G cond τ M) (λτ M=>(ev G elt τ M).bind own) it tg (dj M it) 0 (eT cO ρ) M []
noncomputable def d_(G:a_):eN->En->ag->bS Bool
 | .eC ts,ρ,M=>fD G ts ρ M
 | .gj ts,ρ,M=>fE G ts ρ M
 | .neg a,ρ,M=>(d_ G a ρ M).bind λr M=>.ok (!r) M
 | .val c,ρ,M=>(ev G c ρ M).bind λw M=>match oW M w with
  | some r=>.ok r M
  | none=>.af
noncomputable def iS(G:a_):List C->En->ag->bS W
 | [],_,_=>.af
 | c::cs,ρ,M=>(ev G c ρ M).bind λx M=>match cs,x with
  | [],x=>.ok x M
  | _,.d (.bl true)=>iS G cs ρ M
  | _,.d (.bl false)=>.ok (.d (.bl false)) M
  | _,_=>.af
noncomputable def oX(G:a_):List C->En->ag->bS W
 | [],_,_=>.af
 | c::cs,ρ,M=>(ev G c ρ M).bind λx M=>match cs,x with
  | [],x=>.ok x M
  | _,.d (.bl false)=>oX G cs ρ M
  | _,.d (.bl true)=>.ok (.d (.bl true)) M
  | _,_=>.af
noncomputable def fD(G:a_):List eN->En->ag->bS Bool
 | [],_,_=>.af
 | c::cs,ρ,M=>(d_ G c ρ M).bind λx M=>match cs,x with
  | [],x=>.ok x M
  | _,true=>fD G cs ρ M
  | _,false=>.ok false M
noncomputable def fE(G:a_):List eN->En->ag->bS Bool
 | [],_,_=>.af
 | c::cs,ρ,M=>(d_ G c ρ M).bind λx M=>match cs,x with
  | [],x=>.ok x M
  | _,false=>fE G cs ρ M
  | _,true=>.ok true M
noncomputable def bB(G:a_):List C->En->ag->bS (List D)
 | [],_,M=>.ok [] M
 | c::cs,ρ,M=>((ev G c ρ M).bind own).bind λd M=>(bB G cs ρ M).bind λds M=>.ok (d::ds) M
noncomputable def dk(G:a_):List C->En->ag->bS (List W)
 | [],_,M=>.ok [] M
 | c::cs,ρ,M=>(ev G c ρ M).bind λd M=>(dk G cs ρ M).bind λds M=>.ok (d::ds) M
noncomputable def sE(G:a_):Option C->En->ag->bS (Option Int)
 | none,_,M=>.ok none M
 | some c,ρ,M=>(ev G c ρ M).bind λw M=>match w with
  | .d (.int i)=>.ok (some i) M
  | _=>.af
noncomputable def bI(G:a_):Option eN->En->ag->bS Bool
 | none,_,M=>.ok true M
 | some c,ρ,M=>d_ G c ρ M
end
section
variable {G:a_} {lo hi:Option C} {cond:Option eN}
theorem Cn : ev G (.dH i) ρ M = (match ρ[i]? with
    | some (some d)=>.ok (.d d) M
    | _=>.af):=rfl
theorem KJ:ev G (.bb d) u0 M=.ok (.d d) M:=rfl
theorem KL:ev G (.bin op a b) ρ M=(ev G a ρ M).bind λx M=>(ev G b ρ M).bind λy M=>kU op x y M:=rfl
theorem Co:ev G (.cmp op a b) ρ M=(ev G a ρ M).bind λx M=>(ev G b ρ M).bind λy M=>(aZ op x y M).bind λr M=>.ok (.d (.bl r)) M:=rfl
theorem tZ : ev G (.chain o1 o2 a b c) ρ M = ((ev G a ρ M).bind fun x M => (ev G b ρ M).bind fun y M => (aZ o1 x y M).bind fun r M =>
      if r then (ev G c ρ M).bind λz M=>(aZ o2 y z M).bind λr M=>.ok (.d (.bl r)) M else .ok (.d (.bl false)) M):=rfl
theorem Gh:ev G (.eC cs) ρ M=iS G cs ρ M:=rfl
theorem Gi:ev G (.gj cs) ρ M=oX G cs ρ M:=rfl
theorem KN : ev G (.neg a) ρ M = ((ev G a ρ M).bind fun x M => match x with
    | .d (.bl r)=>.ok (.d (.bl (!r))) M
    | _=>.af):=rfl
theorem Cp:ev G (.ite c a b) ρ M=(d_ G c ρ M).bind λr M=>if r then ev G a ρ M else ev G b ρ M:=rfl
theorem Cq:ev G (.tup cs) ρ M=(bB G cs ρ M).bind λds M=>if ds.length<=sizeLine then .ok (.d (.tup ds)) M else .af:=rfl
theorem Cr:ev G (.lst cs) ρ M=(bB G cs ρ M).bind λds M=>if ds.length<=sizeLine then .ok (.lv ds) M else .af:=rfl
theorem KO:ev G (.sub a b) ρ M=(ev G a ρ M).bind λx M=>(ev G b ρ M).bind λy M=>dh x y M:=rfl
theorem KP:ev G (.jz a lo hi) ρ M=(ev G a ρ M).bind λx M=>(sE G lo ρ M).bind λl M=>(sE G hi ρ M).bind λh M=>ib x l h M:=rfl
theorem KQ:ev G (.Aw a k) ρ M=(ev G a ρ M).bind λx M=>kW x k M:=rfl
theorem xU:ev G (.call f cs) ρ M=(bB G cs ρ M).bind λds M=>G f ds M:=rfl
theorem Cs:ev G (.bi b cs) ρ M=(dk G cs ρ M).bind λws M=>iL b ws M:=rfl
theorem Ct:ev G (.me m o cs) ρ M=(ev G o ρ M).bind λx M=>if (fi M x).isSome then (bB G cs ρ M).bind λds M=>v8 m x ds M else .af:=rfl
theorem v9:ev G (.zF ks cs) ρ M=(bB G cs ρ M).bind λds M=>if ks.length=ds.length then .ok (.d (.aw M.length)) (M++[.dK ((ks.map Sum.inr).zip ds)]) else .af:=rfl
theorem KR:ev G (.lB tp cs) ρ M=(dk G cs ρ M).bind λws M=>Gf tp ws M:=rfl
theorem KS:ev G (.Gd u0 v) u1 M=.ok (.d (.int v)) M:=rfl
theorem xV:ev G (.gD ng a) ρ M=(ev G a ρ M).bind λx M=>xT ng x M:=rfl
theorem qV : ev G (.comp k dC tg cond elt cO) ρ M = ((dk G dC ρ M).bind fun ws M => (jT k ws M).bind fun it M =>
      bc (λτ M=>bI G cond τ M) (λτ M=>(ev G elt τ M).bind own) it tg (dj M it) 0 (eT cO ρ) M []):=rfl
theorem Cu:d_ G (.eC ts) ρ M=fD G ts ρ M:=rfl
theorem Cv:d_ G (.gj ts) ρ M=fE G ts ρ M:=rfl
theorem Gj:d_ G (.neg a) ρ M=(d_ G a ρ M).bind λr M=>.ok (!r) M:=rfl
theorem qW : d_ G (.val c) ρ M = ((ev G c ρ M).bind fun w M => match oW M w with
    | some r=>.ok r M
    | none=>.af):=rfl
theorem kX:iS G [] u0 u1=.af:=rfl
theorem ji : iS G (c :: cs) ρ M = ((ev G c ρ M).bind fun x M => match cs, x with
    | [],x=>.ok x M
    | _,.d (.bl true)=>iS G cs ρ M
    | _,.d (.bl false)=>.ok (.d (.bl false)) M
    | _,_=>.af):=rfl
theorem nk:oX G [] u0 u1=.af:=rfl
theorem kY : oX G (c :: cs) ρ M = ((ev G c ρ M).bind fun x M => match cs, x with
    | [],x=>.ok x M
    | _,.d (.bl false)=>oX G cs ρ M
    | _,.d (.bl true)=>.ok (.d (.bl true)) M
    | _,_=>.af):=rfl
theorem kZ:fD G [] u0 u1=.af:=rfl
theorem jk : fD G (c :: cs) ρ M = ((d_ G c ρ M).bind fun x M => match cs, x with
    | [],x=>.ok x M
    | _,true=>fD G cs ρ M
    | _,false=>.ok false M):=rfl
theorem k8:fE G [] u0 u1=.af:=rfl
theorem jm : fE G (c :: cs) ρ M = ((d_ G c ρ M).bind fun x M => match cs, x with
    | [],x=>.ok x M
    | _,false=>fE G cs ρ M
    | _,true=>.ok true M):=rfl
theorem gk:bB G [] u0 M=.ok [] M:=rfl
theorem e6:bB G (c::cs) ρ M=((ev G c ρ M).bind own).bind λd M=>(bB G cs ρ M).bind λds M=>.ok (d::ds) M:=rfl
theorem jU:dk G [] u0 M=.ok [] M:=rfl
theorem iz:dk G (c::cs) ρ M=(ev G c ρ M).bind λd M=>(dk G cs ρ M).bind λds M=>.ok (d::ds) M:=rfl
theorem nq:sE G none u0 M=.ok none M:=rfl
theorem nr : sE G (some c) ρ M = ((ev G c ρ M).bind fun w M => match w with
    | .d (.int i)=>.ok (some i) M
    | _=>.af):=rfl
end
section
variable [EX]
def KU(K:Frag)(ads:List Addr)(mM H:Hp):W->V->Prop
 | .d x,v=>RD K ads H x v
 | .lv ds,v=>∃a xs,v=.ref a/\mM a=none/\H a=some (.lst xs)/\a∉ads/\aV K ads H ds xs
def lG(K:Frag)(ads:List Addr)(H:Hp)(w:W)(M':ag)(Q:VK):Prop :=
 ∀v H' ar,ay ads ar H H'->aU K ar H' M'->KU K ar H H' w v->Q v H'
def KW(K:Frag)(ads:List Addr)(H:Hp)(ds:List D)(M':ag)(Q:List V->Hp->Prop):Prop :=
 ∀vs H' ar,ay ads ar H H'->aU K ar H' M'->aV K ar H' ds vs->Q vs H'
def PV(K:Frag)(ads:List Addr)(H:Hp)(b:Bool)(M':ag)(Q:Bool->Hp->Prop):Prop :=
 ∀H' ar,ay ads ar H H'->aU K ar H' M'->Q b H'
def cC(K:Frag)(ads:List Addr)(H:Hp)(Q:VK):bS W->Prop
 | .ok w M=>lG K ads H w M Q
 | .err x M=>EX.post K ads H x M
 | .af=>False
def nu(K:Frag)(ads:List Addr)(H:Hp)(Q:List V->Hp->Prop):bS (List D)->Prop
 | .ok w M=>KW K ads H w M Q
 | .err x M=>EX.post K ads H x M
 | .af=>False
def Em(K:Frag)(ads:List Addr)(H:Hp)(Q:Bool->Hp->Prop):bS Bool->Prop
 | .ok w M=>PV K ads H w M Q
 | .err x M=>EX.post K ads H x M
 | .af=>False
structure SR (K:Frag) (ads:List Addr) (M:ag) (ρ:En) (σ:L2.St) (H:Hp):Prop where
 mem:aU K ads H M
 en:PM K ads H ρ σ
 ln:ρ.length=σ.length
def tE(K:Frag)(o:En->ag->bS W):TE:=λσ H Q=>∃ads M ρ,SR K ads M ρ σ H/\cC K ads H Q (o ρ M)
def Eo(K:Frag)(o:En->ag->bS (List D)):TA:=λσ H Q=>∃ads M ρ,SR K ads M ρ σ H/\nu K ads H Q (o ρ M)
def oH(K:Frag)(o:En->ag->bS Bool):TT:=λσ H Q=>∃ads M ρ,SR K ads M ρ σ H/\Em K ads H Q (o ρ M)
section
variable {K:Frag} {ads ar bU:List Addr} {H H' H2:Hp} {M M2:ag} {ρ:En} {σ:L2.St}
theorem KU.rw{mM:Hp}{w:W}{v:V}(h:KU K ads mM H w v):RW K ads H w v:=by
 cases w with
 | d x=>exact h
 | lv ds=>obtain⟨a,xs,e,_,h1,n,r⟩:=h;exact⟨a,xs,e,h1,n,r⟩
theorem SR.grow(s:SR K ads M ρ σ H)(g:ay ads ar H H')(m:aU K ar H' M2):SR K ar M2 ρ σ H':=⟨m,g.W0 s.en,s.ln⟩
theorem zM(g:ay ads ar H H')(m:aU K ads H M)(m':aU K ar H' M2){a:Addr}(h:H' a=none):H a=none:=by
 by_cases hb:a∈ads
 ·have:a∈ar:=by obtain⟨r,e⟩:=g.pre;rw[e];exact EH _ hb
  exact absurd this (m'.fresh h)
 ·cases q:H a with
  | none=>rfl
  | some o=>rw[g.kept a o hb q]at h;cases h
theorem KU.back{w:W}{v:V}(g:ay ads ar H H')(m:aU K ads H M)(m':aU K ar H' M2)(h:KU K bU H' H2 w v):KU K bU H H2 w v:=by
 cases w with
 | d x=>exact h
 | lv ds=>obtain⟨a,xs,e,h0,h1,n,r⟩:=h;exact⟨a,xs,e,zM g m m' h0,h1,n,r⟩
theorem lG.shift{w:W}{Mw:ag}{Q:VK}(p:lG K ads H w Mw Q)(g:ay ads ar H H')(m:aU K ads H M)(m':aU K ar H' M2):lG K ar H' w Mw Q :=
 λv H1 ai g1 m1 r=>p v H1 ai (g.trans g1) m1 (r.back g m m')
theorem cC.shift{o:bS W}{Q:VK}(p:cC K ads H Q o)(g:ay ads ar H H')(m:aU K ads H M)(m':aU K ar H' M2):cC K ar H' Q o:=by
 cases o with
 | ok w Mw=>exact lG.shift p g m m'
 | err _ _=>exact EX.shift p g
 | af=>exact p
theorem nu.shift{o:bS (List D)}{Q:List V->Hp->Prop}(p:nu K ads H Q o)(g:ay ads ar H H'):nu K ar H' Q o:=by
 cases o with
 | ok w Mw=>exact λv H1 ai g1 m1 r=>p v H1 ai (g.trans g1) m1 r
 | err _ _=>exact EX.shift p g
 | af=>exact p
theorem Em.shift{o:bS Bool}{Q:Bool->Hp->Prop}(p:Em K ads H Q o)(g:ay ads ar H H'):Em K ar H' Q o:=by
 cases o with
 | ok w Mw=>exact λH1 ai g1 m1=>p H1 ai (g.trans g1) m1
 | err _ _=>exact EX.shift p g
 | af=>exact p
theorem cC.imp{e1 e2:EX}(im:∀{K:Frag}{ads:List Addr}{H:Hp}{x:vX}{M:ag},e1.post K ads H x M->e2.post K ads H x M){o:bS W}{Q:VK}(p:@cC e1 K ads H Q o):@cC e2 K ads H Q o:=by
 cases o with
 | ok w Mw=>exact p
 | err _ _=>exact im p
 | af=>exact p
theorem dZ{o:En->ag->bS W}{k:W->ag->bS W}{Q:VK}{R:V->Hp->Prop}(s:SR K ads M ρ σ H)(h:cC K ads H Q ((o ρ M).bind k))(hk:∀w M1 v H1 ai,SR K ai M1 ρ σ H1->RW K ai H1 w v->cC K ai H1 Q (k w M1)->R v H1):tE K o σ H R:=by
 refine⟨ads,M,ρ,s,?_⟩
 cases q:o ρ M with
 | ok w M1 =>
  rw[q]at h;have h:cC K ads H Q (k w M1):=h;exact λv H1 ai g1 m1 r=>hk w M1 v H1 ai (s.grow g1 m1) r.rw (h.shift g1 s.mem m1)
 | err _ _=>rw[q]at h;exact h
 | af=>rw[q]at h;exact h
theorem two{oa ob:En->ag->bS W}{f:W->W->ag->bS W}{r:R2}{Q:VK}(hr:∀ {ads M H x y vx vy Q},aU K ads H M->RW K ads H x vx->RW K ads H y vy->cC K ads H Q (f x y M)->r vx vy H Q)(h:tE K (λρ M=>(oa ρ M).bind λx M=>(ob ρ M).bind λy M=>f x y M) σ H Q):Fh r (tE K oa) (tE K ob) σ H Q:=by
 obtain⟨ads,M,ρ,s,h⟩:=h;refine dZ s h λw M1 v H1 ai s1 kE h1=>?_;refine⟨ai,M1,ρ,s1,?_⟩
 cases q:ob ρ M1 with
 | ok y M2 =>
  rw[q]at h1;have h1:cC K ai H1 Q (f w y M2):=h1;exact λvy H2 bU g2 m2 ry=>hr m2 (g2.rw kE) ry.rw (h1.shift g2 s1.mem m2)
 | err _ _=>rw[q]at h1;exact h1
 | af=>rw[q]at h1;exact h1
theorem cC.plain{Q:VK}{x:D}{v:V}(h:cC K ads H Q (.ok (.d x) M))(m:aU K ads H M)(r:RD K ads H x v):Q v H:=h v H ads (ay.refl _ _) m r
theorem cC.list{Q:VK}{ds:List D}{xs:List V}(h:cC K ads H Q (.ok (.lv ds) M))(m:aU K ads H M)(r:aV K ads H ds xs){p:Addr}(hp:H p=none):Q (.ref p) (bu H p (.lst xs)) :=
 h _ _ ads (ay.dR m hp) (m.dR hp) ⟨p,xs,rfl,hp,aS,m.fresh hp,(ay.dR m hp).oV _ _ r⟩
theorem cC.tuple{Q:VK}{ds:List D}{xs:List V}(h:cC K ads H Q (.ok (.d (.tup ds)) M))(m:aU K ads H M)(r:aV K ads H ds xs){p:Addr}(hp:H p=none):Q (.ref p) (bu H p (.tup xs)):=by
 refine h _ _ ads (ay.dR m hp) (m.dR hp) ?_;show RD _ _ _ (.tup ds) _;unfold RD;exact⟨p,xs,rfl,aS,(ay.dR m hp).oV _ _ r⟩
theorem fj{w:W}{v:V}{l:Bool}{ds:List D}(m:aU K ads H M)(r:RW K ads H w v)(e:bF M w=some (l,ds)):∃a xs,v=.ref a/\aV K ads H ds xs/\((l=true/\fN K H a xs)\/(l=false/\gx K H a xs)):=by
 cases w with
 | lv es =>
  simp only[bF,sO,E2]at e;obtain⟨rfl,rfl⟩:=e;obtain⟨a,xs,e,h,n,r⟩:=r;exact⟨a,xs,e,r,.inl ⟨rfl,fN.of h⟩⟩
 | d x =>
  cases x with
  | tup es =>
   simp only[bF,sO,E2]at e;obtain⟨rfl,rfl⟩:=e;have r:RD K ads H (.tup es) v:=r;unfold RD at r;obtain⟨a,xs,e,h,r⟩:=r;exact⟨a,xs,e,r,.inr ⟨rfl,gx.of h⟩⟩
  | ls es =>
   simp only[bF,sO,E2]at e;obtain⟨rfl,rfl⟩:=e;have r:RD K ads H (.ls es) v:=r;unfold RD at r;obtain⟨a,xs,e,h,r⟩:=r;exact⟨a,xs,e,r,.inl ⟨rfl,h.sq⟩⟩
  | aw n =>
   have r:RD K ads H (.aw n) v:=r;unfold RD at r;obtain⟨a,ev,ea⟩:=r;simp only[bF]at e
   cases q:M[n]? with
   | none=>rw[q]at e;cases e
   | some o =>
    rw[q]at e;have ho:=m.obj n o a q ea
    cases o with
    | lst es=>cases e;obtain⟨xs,h,r⟩:=ho;exact⟨a,xs,ev,r,.inl ⟨rfl,fN.of h⟩⟩
    | kF es=>cases e;obtain⟨o,xs,h,r⟩:=ho;exact⟨a,xs,ev,r,.inl ⟨rfl,.inl (.inr ⟨o,h⟩)⟩⟩
    | dK _=>cases e
    | dT _=>cases e
    | dF _=>cases e
  | aL=>cases e
  | bl _=>cases e
  | int _=>cases e
  | str _=>cases e
theorem nz{w:W}{v:V}{ds:List D}(m:aU K ads H M)(r:RW K ads H w v)(e:fi M w=some ds):∃a xs,v=.ref a/\aV K ads H ds xs/\H a=some (.lst xs):=by
 cases w with
 | lv es =>
  simp only[fi,sO]at e;subst e;obtain⟨a,xs,e,h,n,r⟩:=r;exact⟨a,xs,e,r,h⟩
 | d x =>
  cases x with
  | aw n =>
   have r:RD K ads H (.aw n) v:=r;unfold RD at r;obtain⟨a,ev,ea⟩:=r;simp only[fi]at e
   cases q:M[n]? with
   | none=>rw[q]at e;cases e
   | some o =>
    rw[q]at e;have ho:=m.obj n o a q ea
    cases o with
    | lst es=>cases e;obtain⟨xs,h,r⟩:=ho;exact⟨a,xs,ev,r,h⟩
    | kF es=>cases e
    | dK _=>cases e
    | dT _=>cases e
    | dF _=>cases e
  | tup _=>cases e
  | ls _=>cases e
  | aL=>cases e
  | bl _=>cases e
  | int _=>cases e
  | str _=>cases e
theorem aW{i:Int}{v:V}(r:RW K ads H (.d (.int i)) v):v=.int i:=by
 have r:RD K ads H (.int i) v:=r;unfold RD at r;exact r
theorem eO{i:Str}{v:V}(r:RW K ads H (.d (.str i)) v):v=.str i:=by
 have r:RD K ads H (.str i) v:=r;unfold RD at r;exact r
theorem iT{i:Bool}{v:V}(r:RW K ads H (.d (.bl i)) v):v=.bl i:=by
 have r:RD K ads H (.bl i) v:=r;unfold RD at r;exact r
theorem nA{v:V}(r:RW K ads H (.d .aL) v):v=.aL:=by
 have r:RD K ads H .aL v:=r;unfold RD at r;exact r
theorem cU(i:Int):RD K ads H (.int i) (.int i):=by unfold RD;rfl
theorem lH(i:Bool):RD K ads H (.bl i) (.bl i):=by unfold RD;rfl
theorem v_(i:Str):RD K ads H (.str i) (.str i):=by unfold RD;rfl
theorem k_:RD K ads H .aL .aL:=by unfold RD;rfl
end
section
variable {X:Cx}
def U8(K:Frag)(op:El):R2:=λx y H Q=>∃ads M wx wy,aU K ads H M/\RW K ads H wx x/\RW K ads H wy y/\cC K ads H Q (kU op wx wy M)
noncomputable def Gk:El->Operator
 | .add=>.Add | .sub=>.Sub | .mul=>.Mult | .fdiv=>.FloorDiv | .mod=>.Mod | .pow=>.Pow
theorem Gm:iO X (binaryOp .Add) (λx y H Q=>∃a b ys,x=.ref a/\y=.ref b/\gx X.K H a []/\gx X.K H b ys/\Q (.ref b) H):=by
 intro ae s σ H x y v u Q I rx ry h;obtain⟨a,b,ys,rfl,rfl,ha,hb,q⟩:=h;cases rx;cases ry;obtain⟨aA,r1,p1,_⟩:=I.tuple ha;obtain⟨BP,r2,p2,_⟩:=I.tuple hb;cases r1;obtain⟨⟨cls,dd,data,sl⟩,ho,hc,n,hd⟩:=id p1;obtain⟨⟨Uh,R6,data2,R7⟩,BL,tw,n2,hd2⟩:=id p2;simp only at hc hd tw hd2;subst hc hd tw hd2
 exact concat_meets ⟨_,ho,rfl⟩ ⟨_,BL,rfl⟩ noFill_tuple_add seq_tuple_add Jl Jk (Ji _ _)
  (tuple_addW0 a b _ BP.toArray n n2 dd R6 sl R7 rfl) ⟨ho,BL,⟨.ref b,H,I,rfl,q⟩⟩
theorem aV.rep{K:Frag}{ads:List Addr}{H:Hp}{ds:List D}{vs:List V}(r:aV K ads H ds vs):∀k:Nat,aV K ads H (List.replicate k ds).flatten (List.replicate k vs).flatten
 | 0=>by simp;unfold aV;rfl
 | k+1=>by simp only[yQ,AN];exact r.app (aV.rep r k)
theorem KY(op:El):iO X (binaryOp (Gk op)) (U8 X.K op):=by
 intro ae s σ H x y v u Q I rx ry h;obtain⟨ads,M,wx,wy,m,r1,r2,h⟩:=h
 have PX:∀ {op},op=El.add->cC X.K ads H Q (match fi M wx,fi M wy with
  | some xs,some ys=>if xs.length+ys.length<=sizeLine then .ok (.lv (xs++ys)) M else .af
  | _,_=>.af)->wpAny (model X.prog X.w) X.A (binaryOp (Gk op) v u) (EP X ae σ Q) X.xe s:=by
  intro op e h;subst e
  cases q1:fi M wx with
  | none=>rw[q1]at h;exact h.elim
  | some xs =>
   cases q2:fi M wy with
   | none=>rw[q1,q2]at h;exact h.elim
   | some ys =>
    rw[q1,q2]at h;dsimp only at h;split at h
    ·rename_i hz
     obtain⟨a,vs,e1,ra,ha⟩:=nz m r1 q1;obtain⟨b,ws,e2,rb,hb⟩:=nz m r2 q2;subst e1 e2;refine Kq ae s σ H _ _ v u Q I rx ry ⟨a,b,vs,ws,rfl,rfl,ha,hb,by rw[<- ra.len,<- rb.len];exact hz,λp hp=>h.list m (ra.app rb) hp⟩
    ·exact h.elim
 unfold kU at h;split at h
 ·rw[aW r1]at rx;rw[aW r2]at ry;exact J3 ae s σ H _ _ v u Q I rx ry ⟨_,_,rfl,rfl,h.plain m (cU _)⟩
 ·rw[aW r1]at rx;rw[aW r2]at ry;exact J4 ae s σ H _ _ v u Q I rx ry ⟨_,_,rfl,rfl,h.plain m (cU _)⟩
 ·rw[aW r1]at rx;rw[aW r2]at ry;split at h
  ·rename_i hc
   exact J5 ae s σ H _ _ v u Q I rx ry ⟨_,_,rfl,rfl,hc,h.plain m (cU _)⟩
  ·exact h.elim
 ·rw[aW r1]at rx;rw[aW r2]at ry;split at h
  ·rename_i hc
   exact Fj ae s σ H _ _ v u Q I rx ry ⟨_,_,rfl,rfl,hc,h.plain m (cU _)⟩
  ·exact h.elim
 ·rw[aW r1]at rx;rw[aW r2]at ry;split at h
  ·rename_i hc
   exact J6 ae s σ H _ _ v u Q I rx ry ⟨_,_,rfl,rfl,hc,h.plain m (cU _)⟩
  ·exact h.elim
 ·rw[aW r1]at rx;rw[aW r2]at ry;split at h
  ·rename_i hc
   exact J7 ae s σ H _ _ v u Q I rx ry ⟨_,_,rfl,rfl,hc,h.plain m (cU _)⟩
  ·exact h.elim
 ·rename_i xs ys
  split at h
  ·rename_i hc
   have r1:RD X.K ads H (.tup xs) x:=r1;have r2:RD X.K ads H (.tup ys) y:=r2;unfold RD at r1 r2;obtain⟨a,vs,e1,ha,ra⟩:=r1;obtain⟨b,ws,e2,hb,rb⟩:=r2;subst e1 e2;by_cases U9:vs=[]
   ·have ex:xs=[]:=Jf (by rw[ra.len,U9];rfl);subst ex U9;refine Gm ae s σ H _ _ v u Q I rx ry ⟨a,b,ws,rfl,rfl,gx.of ha,gx.of hb,cC.plain (x:=.tup ys) h m ?_⟩;unfold RD;exact⟨b,ws,rfl,hb,rb⟩
   refine FF ae s σ H _ _ v u Q I rx ry ⟨a,b,vs,ws,rfl,rfl,gx.of ha,gx.of hb,U9,by rw[<- ra.len,<- rb.len];exact hc,λz=>?_,λ_ p hp=>h.tuple m (ra.app rb) hp⟩;have ey:ys=[]:=Jf (by rw[rb.len,z];rfl);subst ey;rw[oK]at h;refine h.plain m ?_;unfold RD;exact⟨a,vs,rfl,ha,ra⟩
  ·exact h.elim
 ·exact PX rfl h
 ·rename_i k _
  cases q1:fi M wx with
  | none=>rw[q1]at h;exact h.elim
  | some xs =>
   rw[q1]at h;dsimp only at h;split at h
   ·rename_i hz
    obtain⟨a,vs,e1,ra,ha⟩:=nz m r1 q1;subst e1;rw[aW r2]at ry;refine Kr ae s σ H _ _ v u Q I rx ry ⟨a,k,vs,rfl,rfl,ha,hz.1,hz.2.1,by rw[<- ra.len];exact hz.2.2,λp hp=>h.list m (aV.rep ra k.toNat) hp⟩
   ·exact h.elim
 ·exact h.elim
end
end
section
variable [EX]
section
variable {X:Cx} {ae:List (Addr×Obj)} {σ:L2.St} {H:Hp} {s:Shared} {ads:List Addr} {M:ag}
theorem cZ(I:Inv X ae σ H s)(n:Nat)(hA:∀d v u p,RD X.K ads H d v->RelV v u->cB M n d=some p->∃as,Reads s.heap u p as):∀(ds:List D)(vs:List V)(us:List Value)(ps:List PyData),aV X.K ads H ds vs->aQ vs us->bp M n ds=some ps->∃as,ReadsAll s.heap us ps as
 | [],vs,us,ps,r,rv,e=>by
  unfold aV at r;subst r;cases rv;unfold bp at e;cases e;exact⟨[],.nil⟩
 | d::ds,vs,us,ps,r,rv,e=>by
  unfold aV at r;obtain⟨x,r',rfl,h1,h2⟩:=r
  cases rv with
  | cons rx rr =>
   unfold bp at e
   cases q1:cB M n d with
   | none=>rw[q1]at e;cases e
   | some p =>
    cases q2:bp M n ds with
    | none=>rw[q1,q2]at e;cases e
    | some qs =>
     rw[q1,q2]at e;cases e;obtain⟨as,k1⟩:=hA d x _ p h1 rx q1;obtain⟨bs,k2⟩:=cZ I n hA ds r' _ qs h2 rr q2;exact⟨as++bs,.cons k1 k2⟩
theorem fF(I:Inv X ae σ H s)(m:aU X.K ads H M):∀(n:Nat)(d:D)(v:V)(u:Value)(p:PyData),RD X.K ads H d v->RelV v u->cB M n d=some p->∃as,Reads s.heap u p as:=by
 intro n
 induction n with
 | zero =>
  intro d v u p r rv e
  cases d with
  | aL=>unfold RD at r;subst r;cases rv;unfold cB at e;cases e;exact⟨_,.none⟩
  | bl b=>unfold RD at r;subst r;cases rv;unfold cB at e;cases e;exact⟨_,.bool _⟩
  | int b=>unfold RD at r;subst r;obtain⟨t,rfl⟩:=rv;unfold cB at e;cases e;exact⟨_,.int _ _⟩
  | str b=>unfold RD at r;subst r;obtain⟨t,rfl⟩:=rv;unfold cB at e;cases e;exact⟨_,.str _ _⟩
  | tup _=>unfold cB at e;cases e
  | aw _=>unfold cB at e;cases e
  | ls _=>unfold cB at e;cases e
 | succ n ih =>
  intro d v u p r rv e
  cases d with
  | aL=>unfold RD at r;subst r;cases rv;unfold cB at e;cases e;exact⟨_,.none⟩
  | bl b=>unfold RD at r;subst r;cases rv;unfold cB at e;cases e;exact⟨_,.bool _⟩
  | int b=>unfold RD at r;subst r;obtain⟨t,rfl⟩:=rv;unfold cB at e;cases e;exact⟨_,.int _ _⟩
  | str b=>unfold RD at r;subst r;obtain⟨t,rfl⟩:=rv;unfold cB at e;cases e;exact⟨_,.str _ _⟩
  | tup ds =>
   unfold RD at r;obtain⟨a,xs,rfl,hs,r⟩:=r;cases rv;unfold cB at e
   cases q:bp M n ds with
   | none=>rw[q]at e;cases e
   | some ps =>
    rw[q]at e;cases e;obtain⟨aA,rv,⟨o,h1,h2,k,h3⟩,_⟩:=I.tuple (gx.of (K:=X.K) hs);obtain⟨as,ra⟩:=cZ I n ih ds xs aA ps r rv q;exact⟨as,.tuple h1 h2 h3 (by simpa using ra)⟩
  | ls ds =>
   unfold RD at r;obtain⟨a,xs,rfl,hs,r⟩:=r;cases rv;unfold cB at e
   cases q:bp M n ds with
   | none=>rw[q]at e;cases e
   | some ps =>
    rw[q]at e;cases e;obtain⟨aA,rv,⟨o,kk,h1,h2,h3,h4⟩,_⟩:=I.list hs.sq;obtain⟨as,ra⟩:=cZ I n ih ds xs aA ps r rv q;exact⟨a::as,.list h1 h2 h4 (by simpa using ra)⟩
  | aw k =>
   unfold RD at r;obtain⟨a,rfl,ea⟩:=r;cases rv;unfold cB at e
   have lst:∀ds,fN X.K H a ds->∀es,aV X.K ads H es ds->(bp M n es).map PyData.list=some p->∃as,Reads s.heap (.ref a) p as:=by
    intro xs hs es r e
    cases q:bp M n es with
    | none=>rw[q]at e;cases e
    | some ps =>
     rw[q]at e;cases e;obtain⟨aA,rv,⟨o,kk,h1,h2,h3,h4⟩,_⟩:=I.list hs;obtain⟨as,ra⟩:=cZ I n ih es xs aA ps r rv q;exact⟨a::as,.list h1 h2 h4 (by simpa using ra)⟩
   cases q:M[k]? with
   | none=>rw[q]at e;cases e
   | some o =>
    rw[q]at e;have ho:=m.obj k o a q ea
    cases o with
    | lst es=>obtain⟨xs,h,r⟩:=ho;exact lst xs (fN.of h) es r e
    | kF es=>obtain⟨o,xs,h,r⟩:=ho;exact lst xs (.inl (.inr ⟨o,h⟩)) es r e
    | dK _=>cases e
    | dT _=>cases e
    | dF _=>cases e
theorem gF(I:Inv X ae σ H s)(m:aU X.K ads H M){w:W}{v:V}{u:Value}{p:PyData}(r:RW X.K ads H w v)(rv:RelV v u)(e:gS M w=some p):∃as,Reads s.heap u p as:=by
 cases w with
 | d x=>exact fF I m 30 x v u p r rv e
 | lv ds =>
  obtain⟨a,xs,rfl,h,n,r⟩:=r;cases rv;have e:(bp M 30 ds).map PyData.list=some p:=e
  cases q:bp M 30 ds with
  | none=>rw[q]at e;cases e
  | some ps =>
   rw[q]at e;cases e;obtain⟨aA,rv,⟨o,kk,h1,h2,h3,h4⟩,_⟩:=I.list (fN.of (K:=X.K) h);obtain⟨as,ra⟩:=cZ I 30 (fF I m 30) ds xs aA ps r rv q;exact⟨a::as,.list h1 h2 h4 (by simpa using ra)⟩
end
section
variable {K:Frag} {ads:List Addr} {H:Hp}
theorem bW.find{κ:Type}[DecidableEq κ]{k:κ}:∀{au:List (κ×D)}{ks:List (κ×V)}{d:D},bW K ads H au ks->(au.find? λp=>decide (p.1=k)).map (·.2)=some d->∃v,kP ks k=some v/\RD K ads H d v
 | [],_,_,_,e=>by cases e
 | p::ps,ks,d,r,e=>by
  unfold bW at r;obtain⟨x,r',rfl,h0,h1,h2⟩:=r;by_cases hk:p.1=k
  ·have e':p.2=d:=by simpa[i_,hk]using e
   subst e';exact⟨x.2,jN (h0▸hk),h1⟩
  ·obtain⟨v,e1,rv⟩:=bW.find h2 (by simpa[i_,hk]using e);exact⟨v,(hZ (h0▸hk)).trans e1,rv⟩
theorem bW.len{κ:Type}:∀{au:List (κ×D)}{ks:List (κ×V)},bW K ads H au ks->au.length=ks.length
 | [],_,r=>by unfold bW at r;subst r;rfl
 | p::ps,ks,r=>by unfold bW at r;obtain⟨x,r',rfl,h0,h1,h2⟩:=r;simp[bW.len h2]
theorem bW.Cy{κ:Type}[DecidableEq κ]{k:κ}:∀{au:List (κ×D)}{ks:List (κ×V)},bW K ads H au ks->jS au k=none->kP ks k=none
 | [],_,r,_=>by unfold bW at r;subst r;rfl
 | p::ps,ks,r,e=>by
  unfold bW at r;obtain⟨x,r',rfl,h0,h1,h2⟩:=r;by_cases hk:p.1=k
  ·unfold jS at e;simp[i_,hk]at e
  ·exact(hZ (h0▸hk)).trans (bW.Cy h2 (by unfold jS at e⊢;simpa[i_,hk]using e))
end
section
variable {X:Cx} {ae:List (Addr×Obj)} {σ:L2.St} {H:Hp} {s:Shared} {ads:List Addr} {M:ag}
theorem nB{w:W}{v:V}{au:List (bD×D)}{K:Frag}(m:aU K ads H M)(r:RW K ads H w v)(e:iK M w=some au):∃a ks,v=.ref a/\H a=some (.dK ks)/\bW K ads H au ks:=by
 cases w with
 | lv es=>cases e
 | d x =>
  cases x with
  | aw n =>
   have r:RD K ads H (.aw n) v:=r;unfold RD at r;obtain⟨a,ev,ea⟩:=r;simp only[iK]at e
   cases q:M[n]? with
   | none=>rw[q]at e;cases e
   | some o =>
    rw[q]at e;have ho:=m.obj n o a q ea
    cases o with
    | lst es=>cases e
    | kF es=>cases e
    | dK _=>cases e;obtain⟨ks,h,r⟩:=ho;exact⟨a,ks,ev,h,r⟩
    | dT _=>cases e
    | dF _=>cases e
  | tup _=>cases e
  | ls _=>cases e
  | aL=>cases e
  | bl _=>cases e
  | int _=>cases e
  | str _=>cases e
theorem Cz{w:W}{v:V}{k:bD}{K:Frag}(r:RW K ads H w v)(e:vZ w=some k):v=kV k:=by
 cases w with
 | lv es=>cases e
 | d x =>
  cases x with
  | int i=>cases e;exact aW r
  | str i=>cases e;exact eO r
  | aw _=>cases e
  | tup _=>cases e
  | ls _=>cases e
  | aL=>cases e
  | bl _=>cases e
theorem xW{K:Frag}{au:List (bD×D)}{ks:List (bD×V)}{a:Addr}{k:bD}(ha:H a=some (.dK ks))(r:bW K ads H au ks):∃o,lV H a (kV k) o/\o.isSome=(jS au k).isSome:=by
 refine⟨_,lV.k (k:=k) ha,?_⟩
 cases q:jS au k with
 | none=>rw[r.Cy q];rfl
 | some d=>obtain⟨v,e,_⟩:=r.find q;rw[e];rfl
theorem xX(I:Inv X ae σ H s)(m:aU X.K ads H M)(hu:X.A.units+100<cLine){kb:List (bD×D)}{U_:List (bD×V)}{Sn:List (bD×Value)}(rb:bW X.K ads H kb U_)(vb:KV U_ Sn):∀{ka:List (bD×D)}{PY:List (bD×V)}{NK:List (bD×Value)}{r:Bool},bW X.K ads H ka PY->KV PY NK->v5 M kb ka=some r->PySem.W.KeqHits X.A.in1 s Sn NK r
 | [],PY,NK,r,ra,va,e=>by
  unfold bW at ra;subst ra;cases va;cases e;exact .nil
 | (k,d)::ka,PY,NK,r,ra,va,e=>by
  unfold bW at ra;obtain⟨x,r',rfl,h0,h1,h2⟩:=ra;obtain⟨x1,x2⟩:=x;have h0:k=x1:=h0;subst h0;have h1:RD X.K ads H d x2:=h1
  cases va with
  | cons hp hr =>
   rename_i q vr
   obtain⟨q1,q2⟩:=q;obtain⟨e1,e2⟩:=hp;have e1:k=q1:=e1;subst e1;have e2:RelV x2 q2:=e2;have hv:=vb.val k;simp only[v5]at e
   cases hg:jS kb k with
   | none =>
    rw[hg]at e;cases e;rw[rb.Cy hg]at hv;exact .miss (g9.none_of hv)
   | some y =>
    rw[hg]at e;dsimp only at e;obtain⟨v',Va,So⟩:=rb.find hg;rw[Va]at hv;obtain⟨u',eu,ru⟩:=g9.some_of hv
    cases p1:cB M 30 d with
    | none=>rw[p1]at e;cases e
    | some p =>
     cases p2:cB M 30 y with
     | none=>rw[p1,p2]at e;cases e
     | some p' =>
      rw[p1,p2]at e;dsimp only at e;split at e
      ·rename_i hs
       cases Sq:v5 M kb ka with
       | none=>rw[Sq]at e;cases e
       | some b =>
        rw[Sq]at e;have e:(PyData.eqv p p'&&b)=r:=cR e;subst e;obtain⟨as,Zs⟩:=fF I m 30 d x2 q2 p h1 e2 p1;obtain⟨bs,Zt⟩:=fF I m 30 y v' u' p' So ru p2;exact .hit eu (PySem.W.keq_at Zs Zt hs.1 hs.2 (by show X.A.units+1+64<cLine;omega)) (xX I m hu rb vb h2 hr Sq)
      ·cases e
end
noncomputable def KZ:zK->CmpOp
 | .eq=>.Eq | .ne=>.NotEq | .lt=>.Lt | .le=>.LtE | .gt=>.Gt | .ge=>.GtE | .qT=>.Is | .fy=>.IsNot | .isin=>.In | .cT=>.NotIn
def Gn(K:Frag)(ads:List Addr)(H:Hp)(Q:VK):bS Bool->Prop
 | .ok b M=>∀H' ar,ay ads ar H H'->aU K ar H' M->Q (.bl b) H'
 | .err x M=>EX.post K ads H x M
 | .af=>False
def Gp(K:Frag)(op:zK):R2:=λx y H Q=>∃ads M wx wy,aU K ads H M/\RW K ads H wx x/\RW K ads H wy y/\((op=.qT\/op=.fy)->y=.aL)/\Gn K ads H Q (aZ op wx wy M)
theorem Gn.now{K:Frag}{ads:List Addr}{H:Hp}{Q:VK}{b:Bool}{M:ag}(h:Gn K ads H Q (.ok b M))(m:aU K ads H M):Q (.bl b) H:=h H ads (ay.refl _ _) m
section
variable {X:Cx}
open Classical in
noncomputable def t6(h:Heap)(p:PyData)(y:Value):Bool:=decide (∃q' W4,Reads h y q' W4/\PyData.eqv q' p=true)
open Classical in
theorem t7{h:Heap}{p q:PyData}{y:Value}{cs:List Addr}(ry:Reads h y q cs):t6 h p y=PyData.eqv q p:=by
 unfold t6
 cases hb:PyData.eqv q p with
 | true=>exact fX ⟨q,cs,ry,hb⟩
 | false =>
  refine eU ?_;rintro⟨q',W4,Zu,PZ⟩;obtain⟨e,_⟩:=PyProof.Rows.reads_det (λ_ _ e _=>e) ry Zu;rw[<- e,PZ]at hb;cases hb
theorem CA{s:Shared}{A:Around}{x:Value}{p:PyData}{as:List Addr}(rx:Reads s.heap x p as)(hx:SeqAt.shaped p=true)(hu:A.units+65<cLine):∀{us:List Value}{qs:List PyData}{bs:List Addr},ReadsAll s.heap us qs bs->qs.all SeqAt.shaped=true->(∀y∈us,SeqAt.EqAt A.in1 s y x (t6 s.heap p y))/\us.any (t6 s.heap p)=ia p qs
 | _,_,_,.nil,_=>⟨(λy hy=>by cases hy),rfl⟩
 | _,_,_,.cons (v:=v) (d:=q) ry rr,hq=>by
  rw[List.all_cons,aR]at hq;have PZ:=hq;obtain⟨k1,k2⟩:=CA rx hx hu rr PZ.2;have e0:=SeqAt.eqAt_reads q p A.in1 s v x _ _ ry rx (SeqAt.canLay_of_shaped PZ.1) (SeqAt.canLay_of_shaped hx) (SeqAt.room_of_shaped PZ.1 (by show A.units+1+64<cLine;omega));rw[<- t7 ry]at e0;refine⟨λy hy=>?_,?_⟩
  ·rcases bT.mp hy with z | z
   ·subst z;exact e0
   ·exact k1 y z
  ·rw[AZ,k2,t7 ry];rfl
theorem l7{s:Shared}{A:Around}{x:Value}{p:PyData}{as:List Addr}(rx:Reads s.heap x p as)(hx:SeqAt.shaped p=true)(hu:A.units+65<cLine){us:List Value}{qs:List PyData}{bs:List Addr}(r:ReadsAll s.heap us qs bs)(hq:qs.all SeqAt.shaped=true):∃e:Value->Bool,(∀y∈us,SeqAt.EqAt A.in1 s y x (e y))/\us.any e=ia p qs :=
 ⟨t6 s.heap p,CA rx hx hu r hq⟩
theorem zN:iO X (compareOp .LtE) (λx y H Q=>∃i j,x=.str i/\y=.str j/\Q (.bl (!decide (j.cps.toList<i.cps.toList))) H):=by
 intro ae s σ H x y v u Q I rx ry h;obtain⟨i,j,rfl,rfl,q⟩:=h;obtain⟨t,rfl⟩:=rx;obtain⟨t',rfl⟩:=ry;exact PySem.P.le_str ⟨.bl _,H,I,rfl,q⟩
theorem la(hu:X.A.units+100<cLine)(op:zK):iO X (compareOp (KZ op)) (Gp X.K op):=by
 intro ae s σ H x y v u Q I rx ry h;obtain⟨ads,M,wx,wy,m,r1,r2,hn,h⟩:=h;unfold aZ at h
 cases op with
 | eq =>
  dsimp only at h
  have Im:Gn X.K ads H Q (match iK M wx,iK M wy with
   | some ka,some kb=>match v5 M kb ka with
    | some r=>.ok (ka.length==kb.length&&r) M
    | none=>.af
   | _,_=>.af)->wpAny (model X.prog X.w) X.A (compareOp .Eq v u) (EP X ae σ Q) X.xe s:=by
   intro h
   cases q1:iK M wx with
   | none=>rw[q1]at h;exact h.elim
   | some ka =>
    cases q2:iK M wy with
    | none=>rw[q1,q2]at h;exact h.elim
    | some kb =>
     rw[q1,q2]at h;dsimp only at h
     cases q3:v5 M kb ka with
     | none=>rw[q3]at h;exact h.elim
     | some r =>
      rw[q3]at h;dsimp only at h;obtain⟨a,PY,rfl,ha,ra⟩:=nB m r1 q1;obtain⟨b,U_,rfl,hb,rb⟩:=nB m r2 q2;cases rx;cases ry;obtain⟨za,Zv,NK,va,Zw⟩:=tm I.bw ha;obtain⟨zb,BD,Sn,vb,Zx⟩:=tm I.bw hb;refine PySem.W.keq_eq Zv BD Zw Zx ∅ (λ_=>xX I m hu rb vb ra va q3) ⟨.bl _,H,I,rfl,?_⟩;have e1:NK.length=ka.length:=by rw[<- va.length,ra.len]
      have e2:Sn.length=kb.length:=by rw[<- vb.length,rb.len]
      rw[e1,e2];exact h.now m
  cases q1:gS M wx with
  | none=>rw[q1]at h;exact Im h
  | some p =>
   cases q2:gS M wy with
   | none=>rw[q1,q2]at h;exact Im h
   | some q =>
    rw[q1,q2]at h;dsimp only at h;split at h
    ·rename_i hs
     obtain⟨as,ra⟩:=gF I m r1 rx q1;obtain⟨bs,rb⟩:=gF I m r2 ry q2;exact SeqAt.compareEq_shaped ra rb hs.1 hs.2 ∅ ⟨.bl _,H,I,rfl,h.now m⟩
    ·exact h.elim
 | ne =>
  dsimp only at h
  cases q1:gS M wx with
  | none=>rw[q1]at h;exact h.elim
  | some p =>
   cases q2:gS M wy with
   | none=>rw[q1,q2]at h;exact h.elim
   | some q =>
    rw[q1,q2]at h;dsimp only at h;split at h
    ·rename_i hs
     obtain⟨as,ra⟩:=gF I m r1 rx q1;obtain⟨bs,rb⟩:=gF I m r2 ry q2;exact SeqAt.compareNe_shaped ra rb hs.1 hs.2 ∅ ⟨.bl _,H,I,rfl,h.now m⟩
    ·exact h.elim
 | lt =>
  dsimp only at h;split at h
  ·rw[aW r1]at rx;rw[aW r2]at ry;exact OX ae s σ H _ _ v u Q I rx ry ⟨_,_,rfl,rfl,h.now m⟩
  ·rw[eO r1]at rx;rw[eO r2]at ry;exact zl ae s σ H _ _ v u Q I rx ry ⟨_,_,rfl,rfl,h.now m⟩
  ·exact h.elim
 | le =>
  dsimp only at h;split at h
  ·rw[aW r1]at rx;rw[aW r2]at ry;exact OY ae s σ H _ _ v u Q I rx ry ⟨_,_,rfl,rfl,h.now m⟩
  ·rw[eO r1]at rx;rw[eO r2]at ry;exact zN ae s σ H _ _ v u Q I rx ry ⟨_,_,rfl,rfl,h.now m⟩
  ·exact h.elim
 | gt =>
  dsimp only at h;split at h
  ·rw[aW r1]at rx;rw[aW r2]at ry;exact OZ ae s σ H _ _ v u Q I rx ry ⟨_,_,rfl,rfl,h.now m⟩
  ·exact h.elim
 | ge =>
  dsimp only at h;split at h
  ·rw[aW r1]at rx;rw[aW r2]at ry;exact O0 ae s σ H _ _ v u Q I rx ry ⟨_,_,rfl,rfl,h.now m⟩
  ·exact h.elim
 | qT =>
  have e:=hn (.inl rfl)
  have hx:∀b,aZ .qT wx wy M=.ok b M->b=decide (x=.aL):=by
   intro b e;unfold aZ at e;dsimp only at e;split at e
   ·cases e;rw[nA r1];rfl
   ·rename_i mZ
    cases e;refine(eU ?_).symm;intro z;subst z
    cases wx with
    | lv ds=>obtain⟨a,xs,e,_⟩:=r1;cases e
    | d z=>cases z with
     | aL=>exact mZ rfl
     | bl b=>have:=iT r1;cases this
     | int b=>have:=aW r1;cases this
     | str b=>have:=eO r1;cases this
     | tup b=>have r1:RD X.K ads H (.tup b) .aL:=r1;unfold RD at r1;obtain⟨a,xs,e,_⟩:=r1;cases e
     | aw b=>have r1:RD X.K ads H (.aw b) .aL:=r1;unfold RD at r1;obtain⟨a,e,_⟩:=r1;cases e
     | ls b=>have r1:RD X.K ads H (.ls b) .aL:=r1;unfold RD at r1;obtain⟨a,xs,e,_⟩:=r1;cases e
  subst e;have:∃b,aZ .qT wx wy M=.ok b M:=by unfold aZ;dsimp only;split<;>exact⟨_,rfl⟩
  obtain⟨b,hb⟩:=this;have h:Gn X.K ads H Q (aZ .qT wx wy M):=h;rw[hb]at h;refine J8 ae s σ H _ _ v u Q I rx ry ⟨rfl,?_⟩;rw[<- hx b hb];exact h.now m
 | fy =>
  have e:=hn (.inr rfl)
  have hx:∀b,aZ .fy wx wy M=.ok b M->b=!decide (x=.aL):=by
   intro b e;unfold aZ at e;dsimp only at e;split at e
   ·cases e;rw[nA r1];rfl
   ·rename_i mZ
    cases e
    have:decide (x=.aL)=false:=by
     refine eU ?_;intro z;subst z
     cases wx with
     | lv ds=>obtain⟨a,xs,e,_⟩:=r1;cases e
     | d z=>cases z with
      | aL=>exact mZ rfl
      | bl b=>have:=iT r1;cases this
      | int b=>have:=aW r1;cases this
      | str b=>have:=eO r1;cases this
      | tup b=>have r1:RD X.K ads H (.tup b) .aL:=r1;unfold RD at r1;obtain⟨a,xs,e,_⟩:=r1;cases e
      | aw b=>have r1:RD X.K ads H (.aw b) .aL:=r1;unfold RD at r1;obtain⟨a,e,_⟩:=r1;cases e
      | ls b=>have r1:RD X.K ads H (.ls b) .aL:=r1;unfold RD at r1;obtain⟨a,xs,e,_⟩:=r1;cases e
    rw[this];rfl
  subst e;have:∃b,aZ .fy wx wy M=.ok b M:=by unfold aZ;dsimp only;split<;>exact⟨_,rfl⟩
  obtain⟨b,hb⟩:=this;have h:Gn X.K ads H Q (aZ .fy wx wy M):=h;rw[hb]at h;refine Fl ae s σ H _ _ v u Q I rx ry ⟨rfl,?_⟩;rw[<- hx b hb];exact h.now m
 | isin =>
  dsimp only at h
  cases q2:bF M wy with
  | none =>
   rw[q2]at h
   have h:Gn X.K ads H Q (match vZ wx,iK M wy with
    | some k,some au=>.ok ((jS au k).isSome) M
    | _,_=>.af):=by cases hp:gS M wx<;>rw[hp]at h<;>exact h
   cases q3:vZ wx with
   | none=>rw[q3]at h;exact h.elim
   | some k =>
    cases q4:iK M wy with
    | none=>rw[q3,q4]at h;exact h.elim
    | some au =>
     rw[q3,q4]at h;have ek:=Cz r1 q3;subst ek;obtain⟨a,ks,rfl,ha,ra⟩:=nB m r2 q4;cases ry;obtain⟨o,g,eo⟩:=xW (k:=k) ha ra;refine Ug ∅ I g rx λs' I'=>⟨.bl _,H,I',rfl,?_⟩;rw[eo];exact h.now m
  | some Vb =>
   cases q1:gS M wx with
   | none=>rw[q1,q2]at h;exact h.elim
   | some p =>
    obtain⟨l,ds⟩:=Vb;rw[q1,q2]at h;dsimp only at h
    cases q3:bp M 30 ds with
    | none=>rw[q3]at h;exact h.elim
    | some qs =>
     rw[q3]at h;dsimp only at h;split at h
     ·rename_i hs
      obtain⟨as,ra⟩:=gF I m r1 rx q1;obtain⟨a,xs,ea,rd,sq⟩:=fj m r2 q2;subst ea;cases ry;rcases sq with⟨_,sq⟩|⟨_,sq⟩
      ·obtain⟨aA,rv,pl,_⟩:=I.list sq;obtain⟨bs,rb⟩:=cZ I 30 (fF I m 30) ds xs aA qs rd rv q3;obtain⟨e,he,wa⟩:=l7 (A:=X.A) ra hs.1 ∅ rb hs.2;refine SeqAt.in_listAt e pl.isList (λy hy=>he y (by simpa using hy)) ⟨.bl _,H,I,rfl,?_⟩;have:aA.toArray.any e=ia p qs:=by rw[<- wa];simp
       rw[this];exact h.now m
      ·obtain⟨aA,rv,pl,_⟩:=I.tuple sq;obtain⟨bs,rb⟩:=cZ I 30 (fF I m 30) ds xs aA qs rd rv q3;obtain⟨e,he,wa⟩:=l7 (A:=X.A) ra hs.1 ∅ rb hs.2;refine SeqAt.in_tupleAt e (show s.heap.IsTuple a aA.toArray from pl) (λy hy=>he y (by simpa using hy)) ⟨.bl _,H,I,rfl,?_⟩;have:aA.toArray.any e=ia p qs:=by rw[<- wa];simp
       rw[this];exact h.now m
     ·exact h.elim
 | cT =>
  dsimp only at h
  cases q2:bF M wy with
  | none =>
   rw[q2]at h
   have h:Gn X.K ads H Q (match vZ wx,iK M wy with
    | some k,some au=>.ok (!(jS au k).isSome) M
    | _,_=>.af):=by cases hp:gS M wx<;>rw[hp]at h<;>exact h
   cases q3:vZ wx with
   | none=>rw[q3]at h;exact h.elim
   | some k =>
    cases q4:iK M wy with
    | none=>rw[q3,q4]at h;exact h.elim
    | some au =>
     rw[q3,q4]at h;have ek:=Cz r1 q3;subst ek;obtain⟨a,ks,rfl,ha,ra⟩:=nB m r2 q4;cases ry;obtain⟨o,g,eo⟩:=xW (k:=k) ha ra;refine Fv ∅ I g rx λs' I'=>⟨.bl _,H,I',rfl,?_⟩;rw[eo];exact h.now m
  | some Vb =>
   cases q1:gS M wx with
   | none=>rw[q1,q2]at h;exact h.elim
   | some p =>
    obtain⟨l,ds⟩:=Vb;rw[q1,q2]at h;dsimp only at h
    cases q3:bp M 30 ds with
    | none=>rw[q3]at h;exact h.elim
    | some qs =>
     rw[q3]at h;dsimp only at h;split at h
     ·rename_i hs
      obtain⟨as,ra⟩:=gF I m r1 rx q1;obtain⟨a,xs,ea,rd,sq⟩:=fj m r2 q2;subst ea;cases ry;rcases sq with⟨_,sq⟩|⟨_,sq⟩
      ·obtain⟨aA,rv,pl,_⟩:=I.list sq;obtain⟨bs,rb⟩:=cZ I 30 (fF I m 30) ds xs aA qs rd rv q3;obtain⟨e,he,wa⟩:=l7 (A:=X.A) ra hs.1 ∅ rb hs.2;refine SeqAt.notIn_listAt e pl.isList (λy hy=>he y (by simpa using hy)) ⟨.bl _,H,I,rfl,?_⟩;have:aA.toArray.any e=ia p qs:=by rw[<- wa];simp
       rw[this];exact h.now m
      ·obtain⟨aA,rv,pl,_⟩:=I.tuple sq;obtain⟨bs,rb⟩:=cZ I 30 (fF I m 30) ds xs aA qs rd rv q3;obtain⟨e,he,wa⟩:=l7 (A:=X.A) ra hs.1 ∅ rb hs.2;refine SeqAt.notIn_tupleAt e (show s.heap.IsTuple a aA.toArray from pl) (λy hy=>he y (by simpa using hy)) ⟨.bl _,H,I,rfl,?_⟩;have:aA.toArray.any e=ia p qs:=by rw[<- wa];simp
       rw[this];exact h.now m
     ·exact h.elim
end
end
section
variable [EX]
section
variable {K:Frag} {ads:List Addr} {H:Hp} {M:ag}
theorem P0{w:W}{v:V}{k:Bool}(m:aU K ads H M)(r:RW K ads H w v)(e:oW M w=some k):BB K v H k:=by
 have seq:∀w,RW K ads H w v->((bF M w).map λp=>!p.2.isEmpty)=some k->BB K v H k:=by
  intro w r e
  cases q:bF M w with
  | none=>rw[q]at e;cases e
  | some p =>
   obtain⟨l,ds⟩:=p;rw[q]at e;have e:(!ds.isEmpty)=k:=cR e;obtain⟨a,xs,rfl,rd,sq⟩:=fj m r q;have hl:=rd.len
   have ex:k=!xs.isEmpty:=by
    rw[<- e];cases ds<;>cases xs<;>simp_all
   rcases sq with⟨_,sq⟩|⟨_,sq⟩
   ·exact .inl ⟨xs,sq,ex⟩
   ·exact .inr (.inl ⟨xs,sq,ex⟩)
 cases w with
 | lv ds=>exact seq _ r e
 | d x =>
  cases x with
  | aL=>rw[nA r];exact(cR e).symm
  | bl b=>rw[iT r];exact(cR e).symm
  | int i=>rw[aW r];exact(cR e).symm
  | str s=>exact seq _ r e
  | tup ds=>exact seq _ r e
  | aw n=>exact seq _ r e
  | ls n=>exact seq _ r e
theorem aV.xH{ds:List D}{xs:List V}{i:Int}{d:D}(r:aV K ads H ds xs)(e:L2.xH ds i=some d):∃v,L2.xH xs i=some v/\RD K ads H d v:=by
 unfold L2.xH at e⊢;rw[<- r.len]
 cases q:BQ ds.length i with
 | none=>rw[q]at e;cases e
 | some j=>rw[q]at e;exact r.get e
theorem aV.cut{ds:List D}{xs:List V}{lo hi:Option Int}(r:aV K ads H ds xs):aV K ads H (cutD ds lo hi) (tx xs lo hi):=by
 unfold cutD tx;rw[<- r.len];exact(r.drop _).take _
theorem bW.any{κ:Type}[DecidableEq κ]{k:κ}:∀{au:List (κ×D)}{ks:List (κ×V)},bW K ads H au ks->(au.any λkv=>decide (kv.1=k))=(ks.any λkv=>decide (kv.1=k))
 | [],_,r=>by unfold bW at r;subst r;rfl
 | p::ps,ks,r=>by unfold bW at r;obtain⟨x,r',rfl,h0,h1,h2⟩:=r;simp[bW.any h2,h0]
theorem bW.map{κ:Type}[DecidableEq κ]{k:κ}{d:D}{v:V}(rd:RD K ads H d v):∀{au:List (κ×D)}{ks:List (κ×V)},bW K ads H au ks->bW K ads H (au.map λkv=>if kv.1=k then (kv.1,d) else kv) (ks.map λkv=>if kv.1=k then (kv.1,v) else kv)
 | [],_,r=>by unfold bW at r;subst r;simp;unfold bW;rfl
 | p::ps,ks,r=>by
  unfold bW at r;obtain⟨x,r',rfl,h0,h1,h2⟩:=r;simp only[eJ];unfold bW;refine⟨_,_,rfl,?_,?_,bW.map rd h2⟩
  ·rw[h0];split<;>first | rfl | exact h0
  ·rw[h0];split<;>first | exact rd | exact h1
theorem bW.app{κ:Type}:∀{au es:List (κ×D)}{ks fs:List (κ×V)},bW K ads H au ks->bW K ads H es fs->bW K ads H (au++es) (ks++fs)
 | [],_,_,_,r,q=>by unfold bW at r;subst r;exact q
 | p::ps,es,ks,fs,r,q=>by
  unfold bW at r;obtain⟨x,r',rfl,h0,h1,h2⟩:=r;show bW K ads H (p::(ps++es)) (x::(r'++fs));unfold bW;exact⟨x,_,rfl,h0,h1,bW.app h2 q⟩
theorem bW.put{κ:Type}[DecidableEq κ]{k:κ}{d:D}{v:V}{au:List (κ×D)}{ks:List (κ×V)}(r:bW K ads H au ks)(rd:RD K ads H d v):bW K ads H (nj au k d) (eL ks k v):=by
 unfold nj eL;rw[r.any (k:=k)];split
 ·exact bW.map rd r
 ·refine r.app ?_;unfold bW;exact⟨_,[],rfl,rfl,rd,by unfold bW;rfl⟩
end
section
variable {X:Cx} {M':ag}
def O1(K:Frag):R2:=λx y H Q=>∃ads M wx wy,aU K ads H M/\RW K ads H wx x/\RW K ads H wy y/\cC K ads H Q (dh wx wy M)
theorem K0(hu:X.A.units+1<cLine):Pa X (O1 X.K):=by
 intro value jP ae s σ H x y v u Q I rx ry h hs;obtain⟨ads,M,wx,wy,m,r1,r2,h⟩:=h;unfold dh at h;split at h
 ·rename_i i
  have ey:=aW r2;subst ey
  cases q:bF M wx with
  | some p =>
   obtain⟨l,ds⟩:=p;rw[q]at h;dsimp only at h
   cases q2:Sl ds i with
   | none=>rw[q2]at h;exact h.elim
   | some d =>
    rw[q2]at h;obtain⟨a,xs,rfl,rd,sq⟩:=fj m r1 q;obtain⟨z,e2,rz⟩:=rd.xH q2;rcases sq with⟨_,sq⟩|⟨_,sq⟩
    ·exact FG value jP ae s σ H _ _ v u Q I rx ry ⟨a,xs,i,z,rfl,rfl,sq,e2,h.plain m rz⟩ hs
    ·exact Km value jP ae s σ H _ _ v u Q I rx ry ⟨a,xs,i,z,rfl,rfl,sq,e2,h.plain m rz⟩ hs
  | none =>
   rw[q]at h;dsimp only at h;split at h
   ·split at h
    ·rename_i z hz
     have ex:=eO r1;subst ex
     cases q2:L2.xH z.cps.toList i with
     | none=>rw[q2]at h;exact h.elim
     | some c =>
      rw[q2]at h;exact Kn value jP ae s σ H _ _ v u Q I rx ry ⟨_,i,c,rfl,rfl,hz,q2,h.plain m (v_ _)⟩ hs
    ·exact h.elim
   ·rename_i n
    have r1:RD X.K ads H (.aw n) x:=r1;unfold RD at r1;obtain⟨a,rfl,ea⟩:=r1;split at h
    ·rename_i au q
     obtain⟨ks,hk,rk⟩:=m.obj n _ a q ea;split at h
     ·rename_i d q2
      obtain⟨z,e2,rz⟩:=rk.find (k:=Sum.inl i) q2;cases rx;have g:lV H a (kV (Sum.inl i)) (some z):=by have:=lV.k (k:=Sum.inl i) hk;rw[e2]at this;exact this
      exact tail_any (lC I g) F.slot_dict_getitem.lookup (pB hu I g ry λw' s' I' zv=>⟨z,H,I',zv,h.plain m rz⟩) hs
     ·exact h.elim
    ·exact h.elim
   ·exact h.elim
 ·rename_i k
  have ey:=eO r2;subst ey;split at h
  ·rename_i n
   have r1:RD X.K ads H (.aw n) x:=r1;unfold RD at r1;obtain⟨a,rfl,ea⟩:=r1;split at h
   ·rename_i au q
    obtain⟨ks,hk,rk⟩:=m.obj n _ a q ea;split at h
    ·rename_i d q2
     obtain⟨z,e2,rz⟩:=rk.find (k:=Sum.inr k) q2;cases rx;have g:lV H a (kV (Sum.inr k)) (some z):=by have:=lV.k (k:=Sum.inr k) hk;rw[e2]at this;exact this
     exact tail_any (lC I g) F.slot_dict_getitem.lookup (pB hu I g ry λw' s' I' zv=>⟨z,H,I',zv,h.plain m rz⟩) hs
    ·exact h.elim
   ·exact h.elim
  ·exact h.elim
 ·exact h.elim
def Vc(K:Frag):V->Option Int->Option Int->Hp->VK->Prop:=λx lo hi H Q=>∃ads M wx,aU K ads H M/\RW K ads H wx x/\cC K ads H Q (ib wx lo hi M)
theorem K1:R8 X (Vc X.K):=by
 intro ae s σ H x v vl vu lo hi sl Q I rx hs pl pu h;obtain⟨ads,M,wx,m,r1,h⟩:=h;unfold ib at h;split at h
 ·rename_i ds q
  obtain⟨a,xs,rfl,rd,sq⟩:=fj m r1 q;rcases sq with⟨_,sq⟩|⟨e,_⟩
  ·exact FH ae s σ H _ v vl vu lo hi sl Q I rx hs pl pu ⟨a,xs,rfl,sq,λp hp=>h.list m rd.cut hp⟩
  ·cases e
 ·rename_i ds q
  obtain⟨a,xs,rfl,rd,sq⟩:=fj m r1 q;rcases sq with⟨e,_⟩|⟨_,sq⟩
  ·cases e
  ·split at h
   ·exact h.elim
   ·rename_i hw
    refine Kl ae s σ H _ v vl vu lo hi sl Q I rx hs pl pu ⟨a,xs,rfl,sq,by rw[<- rd.len];exact hw,λp hp=>h.tuple m rd.cut hp⟩
 ·exact h.elim
theorem cC.K2{K:Frag}{ads:List Addr}{H:Hp}{Q:VK}{M:ag}{au:List (bD×D)}{ks:List (bD×V)}{p:Addr}(q:cC K ads H Q (.ok (.d (.aw M.length)) (M++[.dK au])))(m:aU K ads H M)(hp:H p=none)(r:bW K ads H au ks):Q (.ref p) (bu H p (.dK ks)):=by
 have pn:=m.fresh hp;have g0:ay ads ads H (bu H p (.dK ks)):=ay.dR m hp;have m1:aU K ads (bu H p (.dK ks)) M:=m.dR hp;have m2:=m1.push (o:=.dK au) pn ⟨_,aS,g0.F9 _ _ r⟩;refine q (.ref p) _ (ads++[p]) ⟨⟨[p],rfl⟩,λb hb nb=>?_,g0.kept,g0.eW,g0.gW⟩ m2 ?_
 ·rcases eV.mp hb with z | z
  ·exact absurd z nb
  ·have:b=p:=by simpa using z
   subst this;exact hp
 ·show RD K (ads++[p]) (bu H p (.dK ks)) (.aw M.length) (.ref p);unfold RD;exact⟨p,rfl,by rw[sH (by rw[m.len];exact aE _)];simp[m.len]⟩
def Io(K:Frag)(ads:List Addr)(H:Hp):List W->List V->Prop
 | [],vs=>vs=[]
 | w::ws,vs=>∃v r,vs=v::r/\RW K ads H w v/\Io K ads H ws r
def Ep(K:Frag)(b:Bi):List V->Hp->VK->Prop:=λvs H Q=>∃ads M ws,aU K ads H M/\Io K ads H ws vs/\cC K ads H Q (iL b ws M)
theorem Io.one{K:Frag}{ads:List Addr}{H:Hp}{w:W}{vs:List V}(r:Io K ads H [w] vs):∃v,vs=[v]/\RW K ads H w v:=by
 obtain⟨v,r,rfl,h,h2⟩:=r;have h2:r=[]:=h2;subst h2;exact⟨v,rfl,h⟩
theorem Io.two{K:Frag}{ads:List Addr}{H:Hp}{w w2:W}{vs:List V}(r:Io K ads H [w,w2] vs):∃v v2,vs=[v,v2]/\RW K ads H w v/\RW K ads H w2 v2:=by
 obtain⟨v,r,rfl,h,h2⟩:=r;obtain⟨v2,rfl,h3⟩:=Io.one h2;exact⟨v,v2,rfl,h,h3⟩
theorem jn(ps:List (bD×Value)):∀n,n<=ps.length->lE (λi=>ps.getD i (Sum.inl 0,.none)) n=(ps.take n).foldl (λacc p=>stored acc p.1 p.2) []
 | 0,_=>by simp[lE]
 | n+1,h=>by
  have hn:n<ps.length:=h;rw[List.take_add_one,bZ hn,Option.toList_some,Jw,<- jn ps n (kJ hn)];show stored _ _ _=stored _ _ _
  try simp only[jB,bZ hn,Option.getD_some]
theorem xY:∀{qs:List (bD×V)}{ps:List (bD×Value)}{a:List (bD×V)}{b:List (bD×Value)},KV qs ps->KV a b->KV (qs.foldl (λacc p=>eL acc p.1 p.2) a) (ps.foldl (λacc p=>stored acc p.1 p.2) b)
 | [],_,a,b,r,k=>by cases r;exact k
 | q::qs,_,a,b,r,k=>by
  cases r with
  | cons h r =>
   rename_i p ps
   obtain⟨h1,h2⟩:=h;have k2:KV (eL a q.1 q.2) (stored b p.1 p.2):=by rw[<- h1];exact k.put q.1 h2
   exact xY (qs:=qs) (ps:=ps) r k2
theorem K3{i:Int}{u:Value}(r:RelV (.int i) u):∃t,u=.int i t:=r
theorem K4{x:Str}{u:Value}(r:RelV (.str x) u):∃t,u=.str x t:=r
theorem CB{H0:Hp}{h:Heap}(ok:iJ X.prog X.w H0 h){K:Frag}{ads:List Addr}:∀{ds:List D}{acc au:List (bD×D)}{va:List (bD×V)}{ys:List V}{aA:List Value},zL acc ds=some au->bW K ads H0 acc va->aV K ads H0 ds ys->aQ ys aA->∃(ps:List (bD×Value)) (qs:List (bD×V)),ps.length=aA.length/\KV qs ps/\bW K ads H0 au (qs.foldl (λacc p=>eL acc p.1 p.2) va)/\∀i v,aA[i]?=some v->∃a uk,v=.ref a/\g8 (ps.getD i (Sum.inl 0,.none)).1 uk=true/\IsTup h a #[uk,(ps.getD i (Sum.inl 0,.none)).2]
 | [],acc,au,va,ys,aA,e,ra,rd,rv=>by
  cases e;unfold aV at rd;subst rd;cases rv;exact⟨[],[],rfl,.nil,ra,λi v h=>by simp at h⟩
 | d::ds,acc,au,va,ys,aA,e,ra,rd,rv=>by
  unfold aV at rd;obtain⟨y,yr,rfl,r1,r2⟩:=rd
  cases rv with
  | cons hv rv =>
   rename_i u us
   unfold zL at e
   cases hp:pairD d with
   | none=>rw[hp]at e;cases e
   | some kx =>
    obtain⟨k,x⟩:=kx;rw[hp]at e
    have main:∀kd:D,d=.tup [kd,x]->(∀z uz,RD K ads H0 kd z->RelV z uz->g8 k uz=true)->∃(ps:List (bD×Value)) (qs:List (bD×V)),ps.length=(u::us).length/\KV qs ps/\bW K ads H0 au (qs.foldl (λacc p=>eL acc p.1 p.2) va)/\∀i v,(u::us)[i]?=some v->∃a uk,v=.ref a/\g8 (ps.getD i (Sum.inl 0,.none)).1 uk=true/\IsTup h a #[uk,(ps.getD i (Sum.inl 0,.none)).2]:=by
     intro kd ed hk;subst ed;unfold RD at r1;obtain⟨a,xs,rfl,ha,rx⟩:=r1;unfold aV at rx;obtain⟨z,zr,rfl,rz,rx⟩:=rx;unfold aV at rx;obtain⟨z2,zr2,rfl,Zy,rx⟩:=rx;unfold aV at rx;subst rx;obtain⟨_,Zz,tv,tt⟩:=ok a _ ha
     cases tv with
     | cons t1 tv =>
      cases tv with
      | cons t2 tv =>
       cases tv
       rename_i uk uv
       obtain⟨ps,qs,l,kk,rr,hh⟩:=CB ok e (ra.put (k:=k) Zy) r2 rv;refine⟨(k,uv)::ps,(k,z2)::qs,by simp[l],.cons ⟨rfl,t2⟩ kk,rr,λi v hi=>?_⟩
       cases i with
       | zero =>
        have hi:u=v:=by simpa using hi
        subst hi;have hu:u=.ref a:=hv;exact⟨a,uk,hu,hk z uk rz t1,tt⟩
       | succ i =>
        obtain⟨a',ZA,q1,q2,q3⟩:=hh i v (by simpa using hi);exact⟨a',ZA,q1,by simpa using q2,by simpa using q3⟩
    unfold pairD at hp;split at hp
    ·rename_i i dd
     cases hp;refine main _ rfl λz uz rz hz=>?_;unfold RD at rz;subst rz;obtain⟨t,rfl⟩:=K3 hz;exact pb i t
    ·rename_i i dd
     cases hp;refine main _ rfl λz uz rz hz=>?_;unfold RD at rz;subst rz;obtain⟨t,rfl⟩:=K4 hz;exact pd i t
    ·cases hp
theorem Gq(hc:X.calm=true):dW X (.type "dict") (Ep X.K .pM):=by
 intro ae s σ H xs us Q I r h;obtain⟨ads,M,ws,m,rw,h⟩:=h;rcases ws with _|⟨w,_|⟨w2,ws⟩⟩
 ·exact h.elim
 ·obtain⟨v,rfl,rv⟩:=rw.one;unfold iL at h;dsimp only at h;split at h
  ·rename_i au q
   obtain⟨a,ks,rfl,ha,ra⟩:=nB m rv q;obtain⟨u,rfl,ru⟩:=vals1 r;cases ru;obtain⟨z,hd,vs,va,dd⟩:=tm I.bw ha;refine kt_call_dict hd dd (by rw[<- va.length];exact z) λh' JL hs=>?_
   have kp:∀b o',s.heap.get? b=some o'->h'.get? b=some o':=λb o' e=>by
    have hb:b≠s.heap.objs.size:=λz=>by subst z;exact absurd (bP e) (jF _)
    rw[hs.2 b hb];exact cI _ e
   refine⟨.ref s.heap.objs.size,_,I.laid (t':=s.toks) (o:=.dK ks) kp (aE _) ?_,rfl,h.K2 m (I.bw.fresh (aE _)) ra⟩;exact⟨z,oJ.mpr (cN (eK I.big)),vs,va,JL⟩
  ·split at h
   ·rename_i ds q
    split at h
    ·rename_i au qp
     obtain⟨a,ys,rfl,rd,sq⟩:=fj m rv q;rcases sq with⟨_,sq⟩|⟨e,_⟩
     ·obtain⟨u,rfl,ru⟩:=vals1 r;cases ru;obtain⟨aA,vy,pl,hz⟩:=I.list sq;obtain⟨ps,qs,l,kk,rr,hh⟩:=CB I.bw qp (va:=[]) (show bW X.K ads H [] [] by unfold bW;rfl) rd vy;refine F1 (I.ok.hd hc) pl (by rw[<- vy.length];exact hz) (λi=>ps.getD i (Sum.inl 0,.none)) hh λh' tk kp hd=>?_;rw[<- l,jn ps _ (aE _),jE]at hd;refine⟨.ref s.heap.objs.size,_,I.laid (t':=tk) (o:=.dK (qs.foldl (λacc p=>eL acc p.1 p.2) [])) kp (aE _) ?_,rfl,h.K2 m (I.bw.fresh (aE _)) rr⟩;have kf:=xY kk (a:=[]) (b:=[]) .nil;refine⟨?_,oJ.mpr (cN (eK I.big)),_,kf,hd⟩;have l1:=AY kf;have l2:=kT (λi=>ps.getD i (Sum.inl 0,.none)) ps.length;rw[jn ps _ (aE _),jE]at l2;rw[l1];exact bJ l2 (by rw[l,<- vy.length];exact hz)
     ·cases e
    ·exact h.elim
   ·exact h.elim
 ·exact h.elim
theorem K5:dW X (.builtin "len") (Ep X.K .len):=by
 intro ae s σ H xs us Q I r h;obtain⟨ads,M,ws,m,rw,h⟩:=h;rcases ws with _|⟨w,_|⟨w2,ws⟩⟩
 ·exact h.elim
 ·obtain⟨v,rfl,rv⟩:=rw.one;unfold iL at h;dsimp only at h;split at h
  ·rename_i l ds q
   obtain⟨a,ys,rfl,rd,sq⟩:=fj m rv q;refine qJ ae s σ H _ us Q I r ⟨a,ys,rfl,?_,by rw[<- rd.len];exact h.plain m (cU _)⟩;rcases sq with⟨_,sq⟩|⟨_,sq⟩
   ·exact .inl sq
   ·exact .inr sq
  ·split at h
   ·split at h
    ·rename_i hz
     have e1:=eO rv;subst e1;exact qK ae s σ H _ us Q I r ⟨_,rfl,hz,h.plain m (cU _)⟩
    ·exact h.elim
   ·exact h.elim
 ·exact h.elim
theorem Gr:dW X (.type "list") (Ep X.K .list1):=by
 intro ae s σ H xs us Q I r h;obtain⟨ads,M,ws,m,rw,h⟩:=h;rcases ws with _|⟨w,_|⟨w2,ws⟩⟩
 ·exact h.elim
 ·obtain⟨v,rfl,rv⟩:=rw.one;unfold iL at h;dsimp only at h;split at h
  ·rename_i l ds q
   obtain⟨a,ys,rfl,rd,sq⟩:=fj m rv q;refine qL ae s σ H _ us Q I r ⟨a,ys,rfl,?_,λp hp=>h.list m rd hp⟩;rcases sq with⟨_,sq⟩|⟨_,sq⟩
   ·exact .inl sq
   ·exact .inr sq
  ·exact h.elim
 ·exact h.elim
theorem CD:dW X (.type "tuple") (Ep X.K .tuple1):=by
 intro ae s σ H xs us Q I r h;obtain⟨ads,M,ws,m,rw,h⟩:=h;rcases ws with _|⟨w,_|⟨w2,ws⟩⟩
 ·exact h.elim
 ·obtain⟨v,rfl,rv⟩:=rw.one;unfold iL at h;dsimp only at h;split at h
  ·rename_i l ds q
   have hq:=q;obtain⟨a,ys,rfl,rd,sq⟩:=fj m rv q;rcases sq with⟨_,sq⟩|⟨el,sq⟩
   ·exact iQ ae s σ H _ us Q I r ⟨a,ys,rfl,.inl ⟨sq,λp hp=>h.tuple m rd hp⟩⟩
   ·refine iQ ae s σ H _ us Q I r ⟨a,ys,rfl,.inr ⟨sq,h.plain m ?_⟩⟩;subst el
    cases w with
    | lv es=>cases hq
    | d x =>
     cases x with
     | tup es =>
      have e:es=ds:=by simpa[bF]using hq
      subst e;exact rv
     | aw n =>
      simp only[bF]at hq;split at hq<;>cases hq
     | ls _=>cases hq
     | aL=>cases hq
     | bl _=>cases hq
     | int _=>cases hq
     | str _=>cases hq
  ·exact h.elim
 ·exact h.elim
theorem K6(hc:X.calm=true):dW X (.builtin "max") (Ep X.K .max2):=by
 intro ae s σ H xs us Q I r h;obtain⟨ads,M,ws,m,rw,h⟩:=h;rcases ws with _|⟨w,_|⟨w2,_|⟨w3,ws⟩⟩⟩
 ·exact h.elim
 ·rcases w with⟨_|_|_|_|_|_⟩|_<;>exact h.elim
 ·rcases w with⟨_|_ | i | _|_|_⟩|_<;>first | exact h.elim | skip
  rcases w2 with⟨_|_ | j | _|_|_⟩|_<;>first | exact h.elim | skip
  obtain⟨v,v2,rfl,r1,r2⟩:=rw.two;have e1:=aW r1;have e2:=aW r2;subst e1 e2;exact zm hc ae s σ H _ us Q I r ⟨i,j,rfl,cC.plain h m (cU _)⟩
 ·rcases w with⟨_|_ | i | _|_|_⟩|_<;>first | exact h.elim | skip
  rcases w2 with⟨_|_ | j | _|_|_⟩|_<;>exact h.elim
theorem K7(hc:X.calm=true):dW X (.builtin "min") (Ep X.K .min2):=by
 intro ae s σ H xs us Q I r h;obtain⟨ads,M,ws,m,rw,h⟩:=h;rcases ws with _|⟨w,_|⟨w2,_|⟨w3,ws⟩⟩⟩
 ·exact h.elim
 ·rcases w with⟨_|_|_|_|_|_⟩|_<;>exact h.elim
 ·rcases w with⟨_|_ | i | _|_|_⟩|_<;>first | exact h.elim | skip
  rcases w2 with⟨_|_ | j | _|_|_⟩|_<;>first | exact h.elim | skip
  obtain⟨v,v2,rfl,r1,r2⟩:=rw.two;have e1:=aW r1;have e2:=aW r2;subst e1 e2;exact zo hc ae s σ H _ us Q I r ⟨i,j,rfl,cC.plain h m (cU _)⟩
 ·rcases w with⟨_|_ | i | _|_|_⟩|_<;>first | exact h.elim | skip
  rcases w2 with⟨_|_ | j | _|_|_⟩|_<;>exact h.elim
theorem eD(n:Nat)(hA:∀d p,cB M' n d=some p->p.hasDict=false):∀(ds:List D)(ps:List PyData),bp M' n ds=some ps->PyData.hasDictAll ps=false
 | [],ps,e=>by unfold bp at e;cases e;rfl
 | d::ds,ps,e=>by
  unfold bp at e
  cases q1:cB M' n d with
  | none=>rw[q1]at e;cases e
  | some p =>
   cases q2:bp M' n ds with
   | none=>rw[q1,q2]at e;cases e
   | some qs =>
    rw[q1,q2]at e;cases e;rw[PyData.hasDictAll,hA d p q1,eD n hA ds qs q2];rfl
theorem t8:∀(n:Nat)(d:D)(p:PyData),cB M' n d=some p->p.hasDict=false:=by
 intro n
 induction n with
 | zero=>intro d p e;cases d<;>(unfold cB at e;cases e)<;>simp[PyData.hasDict]
 | succ n ih =>
  intro d p e
  cases d with
  | tup ds =>
   unfold cB at e
   cases q:bp M' n ds with
   | none=>rw[q]at e;cases e
   | some ps=>rw[q]at e;cases e;rw[PyData.hasDict];exact eD n ih ds ps q
  | aw k =>
   unfold cB at e;split at e
   ·cases q:bp M' n _ with
    | none=>rw[q]at e;cases e
    | some ps=>rw[q]at e;cases e;rw[PyData.hasDict];exact eD n ih _ ps q
   ·cases q:bp M' n _ with
    | none=>rw[q]at e;cases e
    | some ps=>rw[q]at e;cases e;rw[PyData.hasDict];exact eD n ih _ ps q
   ·cases e
  | ls ds =>
   unfold cB at e
   cases q:bp M' n ds with
   | none=>rw[q]at e;cases e
   | some ps=>rw[q]at e;cases e;rw[PyData.hasDict];exact eD n ih ds ps q
  | aL=>unfold cB at e;cases e;simp[PyData.hasDict]
  | bl _=>unfold cB at e;cases e;simp[PyData.hasDict]
  | int _=>unfold cB at e;cases e;simp[PyData.hasDict]
  | str _=>unfold cB at e;cases e;simp[PyData.hasDict]
theorem K8:dW X (.type "int") (Ep X.K .qU):=by
 intro ae s σ H xs us Q I r h;obtain⟨ads,M,ws,m,rw,h⟩:=h;rcases ws with _|⟨w,_|⟨w2,ws⟩⟩
 ·exact h.elim
 ·obtain⟨v,rfl,rv⟩:=rw.one
  cases w with
  | lv ds=>exact h.elim
  | d x =>
   cases x with
   | int i =>
    have e:=aW rv;subst e;exact ph ae s σ H _ us Q I r (.inl ⟨i,rfl,cC.plain h m (cU _)⟩)
   | bl i =>
    have e:=iT rv;subst e;exact ph ae s σ H _ us Q I r (.inr ⟨i,rfl,cC.plain h m (cU _)⟩)
   | aL=>exact h.elim
   | str _=>exact h.elim
   | tup _=>exact h.elim
   | aw _=>exact h.elim
   | ls _=>exact h.elim
 ·rcases w with⟨_|_|_|_|_|_⟩|_<;>exact h.elim
theorem Gs{k:Nat}(hr:eB k X.A):dW X (.builtin "repr") (Ep X.K .fC):=by
 intro ae s σ H xs us Q I r h;obtain⟨ads,M,ws,m,rw,h⟩:=h;rcases ws with _|⟨w,_|⟨w2,ws⟩⟩
 ·exact h.elim
 ·obtain⟨v,rfl,rv⟩:=rw.one;unfold iL at h;dsimp only at h;split at h
  ·rename_i p q
   split at h
   ·rename_i hs
    obtain⟨u,rfl,ru⟩:=vals1 r;obtain⟨as,ra⟩:=gF I m rv ru q;have Sr:=hr.un
    have fin:∀(h':Heap)(t:Tok)(tk:Nat),(∀b o,s.heap.get? b=some o->h'.get? b=some o)->EP X ae σ Q (.str p.shown t) {s with heap:=h',toks:=tk}:=λh' t tk hk =>
     ⟨.str p.shown,H,I.kept hk,⟨t,rfl⟩,h.plain m (v_ _)⟩
    have Gu:∀(t:Tok)(tk:Nat),EP X ae σ Q (.str p.shown t) {s with toks:=tk}:=λt tk=>fin s.heap t tk λ_ _ e=>e
    have nd:p.hasDict=false:=by
     cases w with
     | d x=>exact t8 30 x p q
     | lv ds =>
      have e:(bp M 30 ds).map PyData.list=some p:=q
      cases q2:bp M 30 ds with
      | none=>rw[q2]at e;cases e
      | some ps=>rw[q2]at e;cases e;rw[PyData.hasDict];exact eD 30 (t8 30) ds ps q2
    cases ra with
    | none=>exact PySem.P.repr_of_none (Gu _ _)
    | bool b=>exact PySem.P.repr_of_bool (Gu _ _)
    | int i t=>exact PySem.P.repr_of_int (Jx hs.1) (Gu _ _)
    | str x t=>exact PySem.P.repr_of_str (Gu _ _) hs.2.2
    | list h1 h2 h3 h4=>exact repr_of_reads' (.list h1 h2 h3 h4) hs.1 (PyData.noDict_hsm nd) hr.gd (by have:=hs.2.1;omega) (λ_ _ e=>e) (λh' t tk hk=>fin h' t tk hk) hs.2.2
    | tuple h1 h2 h3 h4=>exact repr_of_reads' (.tuple h1 h2 h3 h4) hs.1 (PyData.noDict_hsm nd) hr.gd (by have:=hs.2.1;omega) (λ_ _ e=>e) (λh' t tk hk=>fin h' t tk hk) hs.2.2
    | dict h1 h2 h3 h4 h5=>rw[PyData.hasDict]at nd;cases nd
   ·exact h.elim
  ·exact h.elim
 ·exact h.elim
noncomputable def t9:Ty->String
 | .int => "int" | .bool => "bool" | .str => "str" | .tuple => "tuple" | .list => "list" | .dict => "dict" | .none => "NoneType"
theorem Gv(K:Frag):∀g t:Ty,PySem.W.kitOne K (.type (t9 g)) (.type (t9 t))=some (decide (g=t)||(decide (g=.bool)&&decide (t=.int))):=by
 intro g t;cases g<;>cases t<;>kernel_rfl
theorem K9{K:Frag}{ads:List Addr}{H:Hp}{M:ag}{w:W}{v:V}{g:Ty}(m:aU K ads H M)(r:RW K ads H w v)(e:Ge M w=some g):kO K H v (.type (t9 g)):=by
 cases w with
 | lv ds=>cases e;obtain⟨a,xs,rfl,h,_⟩:=r;exact .lst h
 | d x =>
  cases x with
  | aL=>cases e;rw[nA r];exact .aL
  | bl b=>cases e;rw[iT r];exact .bl b
  | int b=>cases e;rw[aW r];exact .int b
  | str b=>cases e;rw[eO r];exact .str b
  | ls b=>cases e
  | tup b=>cases e;have r:RD K ads H (.tup b) v:=r;unfold RD at r;obtain⟨a,xs,rfl,h,_⟩:=r;exact .tup h
  | aw n =>
   have r:RD K ads H (.aw n) v:=r;unfold RD at r;obtain⟨a,rfl,ea⟩:=r;simp only[Ge]at e
   cases q:M[n]? with
   | none=>rw[q]at e;cases e
   | some o =>
    rw[q]at e;have ho:=m.obj n o a q ea
    cases o with
    | lst es=>cases e;obtain⟨xs,h,_⟩:=ho;exact .lst h
    | kF es=>cases e;obtain⟨o,xs,h,_⟩:=ho;exact .gW h
    | dK es=>cases e;obtain⟨xs,h,_⟩:=ho;exact .dK h
    | dT es=>cases e;obtain⟨xs,h,_⟩:=ho;exact .dT h
    | dF es=>cases e
theorem K_(t:Ty):dW X (.builtin "isinstance") (λvs H Q=>∃v,vs=[v,.ty (t9 t)]/\Ep X.K (.pL t) [v] H Q):=by
 intro ae s σ H xs us Q I r h;obtain⟨v,rfl,ads,M,ws,m,rw,h⟩:=h;obtain⟨u,u2,rfl,r1,r2⟩:=vals2 r;rcases ws with _|⟨w,_|⟨w2,ws⟩⟩
 ·exact h.elim
 ·obtain⟨v',e,rv⟩:=rw.one;cases e;unfold iL at h;dsimp only at h;split at h
  ·rename_i g q
   have e2:u2=Value.type (t9 t):=r2;subst e2;exact zq I r1 (K9 m rv q) (Gv X.K g t) λtk=>⟨.bl _,H,I.tok tk,rfl,h.plain m (lH _)⟩
  ·exact h.elim
 ·obtain⟨_,_,e,_,_,_,e2,_⟩:=rw;cases e;cases e2
end
end
section
variable [EX]
section
variable {X:Cx}
def Ss(K:Frag)(me:Me):V->List V->Hp->VK->Prop:=λx vs H Q=>∃ads M wx ds,aU K ads H M/\RW K ads H wx x/\aV K ads H ds vs/\cC K ads H Q (v8 me wx ds M)
theorem aV.P1{K:Frag}{ads:List Addr}{H:Hp}{d:D}{vs:List V}(r:aV K ads H [d] vs):∃v,vs=[v]/\RD K ads H d v:=by
 unfold aV at r;obtain⟨v,r',rfl,h,h2⟩:=r;unfold aV at h2;subst h2;exact⟨v,rfl,h⟩
theorem aV.Vd{K:Frag}{ads:List Addr}{H:Hp}{d e:D}{vs:List V}(r:aV K ads H [d,e] vs):∃v w,vs=[v,w]/\RD K ads H d v/\RD K ads H e w:=by
 unfold aV at r;obtain⟨v,r',rfl,h,h2⟩:=r;obtain⟨w,rfl,h3⟩:=h2.P1;exact⟨v,w,rfl,h,h3⟩
theorem cC.wrote{K:Frag}{ads:List Addr}{H:Hp}{M:ag}{n:Nat}{a:Addr}{ds es:List D}{ys:List V}{x:D}{Q:VK}{v:V}(h:cC K ads H Q (.ok (.d x) (M.set n (.lst es))))(m:aU K ads H M)(q:M[n]?=some (.lst ds))(ea:ads[n]?=some a)(ha:∃xs,H a=some (.lst xs))(ry:aV K ads H es ys)(rx:RD K ads (bu H a (.lst ys)) x v):Q v (bu H a (.lst ys)):=by
 obtain⟨xs,ha⟩:=ha;have nf:∀o x,H a≠some (.gW o x):=λo x z=>by rw[ha]at z;cases z
 have g:ay ads ads H (bu H a (.lst ys)):=by
  have B7:a∈ads:=fw ea
  exact⟨⟨[],by simp⟩,λb h n=>absurd h n,λb x nb h=>by rw[aq (by intro z;subst z;exact nb B7)];exact h,λb xs h=>by
   rw[aq (λz=>by subst z;rw[ha]at h;cases h)];exact h,λb o u h=>by rw[aq (λz=>by subst z;exact nf _ _ h)];exact h⟩
 obtain⟨g',m'⟩:=m.write (o:=.lst es) (ho:=.lst ys) q ea nf ⟨ys,aS,g.oV _ _ ry⟩;exact h v _ ads g m' rx
theorem pN:Pb X "list.append" (Ss X.K .append):=by
 intro ae s σ H x vs v us Q I rx rv h;obtain⟨ads,M,wx,ds,m,r1,r2,h⟩:=h;rcases wx with⟨_|_|_|_|_ | n⟩|_<;>first | exact h.elim | skip
 have r1:RD X.K ads H (.aw n) x:=r1;unfold RD at r1;obtain⟨a,rfl,ea⟩:=r1;simp only[v8]at h
 cases q:M[n]? with
 | none=>rw[q]at h;exact h.elim
 | some o =>
  rw[q]at h
  cases o with
  | lst es =>
   rcases ds with _|⟨d,_|⟨d2,ds⟩⟩
   ·exact h.elim
   ·dsimp only at h;split at h
    ·rename_i hz
     obtain⟨y,rfl,ry⟩:=r2.P1;obtain⟨xs,ha,rd⟩:=m.obj n _ a q ea;exact pC ae s σ H _ _ v us Q I rx rv ⟨a,xs,y,rfl,rfl,ha,by rw[<- rd.len];exact hz,cC.wrote h m q ea ⟨xs,ha⟩ (rd.app (.one ry)) k_⟩
    ·exact h.elim
   ·exact h.elim
  | kF _=>exact h.elim
  | dK _=>exact h.elim
  | dT _=>exact h.elim
  | dF _=>exact h.elim
def Gw:V->List V->Hp->VK->Prop:=λx vs H Q=>∃l xs i y,x=.ref l/\vs=[.int i,y]/\H l=some (.lst xs)/\xs.length<sizeLine/\0<=i/\i<=xs.length/\Q .aL (bu H l (.lst (xs.take i.toNat++y::xs.drop i.toNat)))
theorem zO:Pb X "list.insert" Gw:=by
 intro ae s σ H x vs v us Q I rx rv h;obtain⟨l,xs,i,y,rfl,rfl,hH,hz,h0,h1,q⟩:=h;cases rx;obtain⟨u,w,rfl,ru,zv⟩:=rv.two;obtain⟨t,rfl⟩:=ru;obtain⟨z,aA,n,r,hl,e⟩:=I.BX hH;have hs:sizeLine=16777216:=sizeLine_eq;refine call_meets F.slot_list_insert ⟨_,e,rfl⟩ F.entry_list_insert (F.args_list_insert_3 _ _ _) (AutoSeq1.list_insert_list_int_val_1 l aA.toArray n i t w ?_ (by rw[df];omega)) ⟨e,?_⟩
 ·simp only[Builtin.List.listFitsIndex,i4,Bool.not_eq_false];have:(i:Int)<=16777216:=∅;simp;omega
 ·refine⟨.aL,_,I.Pf (its':=aA.take i.toNat++w::aA.drop i.toNat) hH e ?_ ((r.take _).append (.cons zv (r.drop _))) ?_,rfl,q⟩
  ·dsimp only;rw[aP ∅];have hk:min i.toNat aA.toArray.size=i.toNat:=by rw[df];omega
   rw[hk];apply Array.ext';simp only[Array.toList_append,Array.toList_push,Array.toList_extract,List.extract_eq_take_drop,df,List.drop_zero,Nat.sub_zero];rw[AG (l:=List.drop i.toNat aA) (by simp)];simp
  ·simp;omega
theorem pO:Pb X "list.insert" (Ss X.K .insert):=by
 intro ae s σ H x vs v us Q I rx rv h;obtain⟨ads,M,wx,ds,m,r1,r2,h⟩:=h;rcases wx with⟨_|_|_|_|_ | n⟩|_<;>first | exact h.elim | skip
 have r1:RD X.K ads H (.aw n) x:=r1;unfold RD at r1;obtain⟨a,rfl,ea⟩:=r1;simp only[v8]at h
 cases q:M[n]? with
 | none=>rw[q]at h;exact h.elim
 | some o =>
  rw[q]at h
  cases o with
  | lst es =>
   rcases ds with _|⟨d,_|⟨d2,_|⟨d3,ds⟩⟩⟩
   ·exact h.elim
   ·rcases d with _|_|_|_|_|_<;>exact h.elim
   ·rcases d with _|_ | i | _|_|_<;>first | exact h.elim | skip
    dsimp only at h;split at h
    ·rename_i hz
     obtain⟨vi,y,rfl,ri,ry⟩:=r2.Vd;unfold RD at ri;subst ri;obtain⟨xs,ha,rd⟩:=m.obj n _ a q ea;refine zO ae s σ H _ _ v us Q I rx rv ⟨a,xs,i,y,rfl,rfl,ha,by rw[<- rd.len];exact hz.1,hz.2.1,by rw[<- rd.len];exact hz.2.2,cC.wrote h m q ea ⟨xs,ha⟩ ((rd.take _).app ?_) k_⟩;show aV X.K ads H (d2::es.drop i.toNat) (y::xs.drop i.toNat);unfold aV;exact⟨y,_,rfl,ry,rd.drop _⟩
    ·exact h.elim
   ·rcases d with _|_ | i | _|_|_<;>exact h.elim
  | kF _=>exact h.elim
  | dK _=>exact h.elim
  | dT _=>exact h.elim
  | dF _=>exact h.elim
def ic(o i:W)(d:D)(M:ag):bS Unit :=
 match o with
 | .d (.aw n)=>match M[n]? with
  | some (.lst ds)=>match i with
   | .d (.int k)=>match BQ ds.length k with
    | some j=>.ok () (M.set n (.lst (ds.set j d)))
    | none=>.af
   | _=>.af
  | some (.dK au)=>match i with
   | .d (.str k)=>if au.length<sizeLine then .ok () (M.set n (.dK (nj au (Sum.inr k) d))) else .af
   | .d (.int k)=>if au.length<sizeLine then .ok () (M.set n (.dK (nj au (Sum.inl k) d))) else .af
   | _=>.af
  | _=>.af
 | _=>.af
def W5(K:Frag)(ads:List Addr)(H:Hp)(Q:Hp->Prop):bS Unit->Prop
 | .ok _ M=>∀H' ar,ay ads ar H H'->aU K ar H' M->Q H'
 | .err x M=>EX.post K ads H x M
 | .af=>False
def Ve(K:Frag):E_:=λo i v H Q=>∃ads M wo wi d,aU K ads H M/\RW K ads H wo o/\RW K ads H wi i/\RD K ads H d v/\W5 K ads H Q (ic wo wi d M)
theorem La(hu:X.A.units+1<cLine):JW X (Ve X.K):=by
 intro ae s σ H o i v ov iv u Q I ro ri rv h;obtain⟨ads,M,wo,wi,d,m,r1,r2,r3,h⟩:=h;rcases wo with⟨_|_|_|_|_ | n⟩|_<;>first | exact h.elim | skip
 have r1:RD X.K ads H (.aw n) o:=r1;unfold RD at r1;obtain⟨a,rfl,ea⟩:=r1;simp only[ic]at h
 cases q:M[n]? with
 | none=>rw[q]at h;exact h.elim
 | some ob =>
  rw[q]at h;have B7:a∈ads:=fw ea
  cases ob with
  | lst ds =>
   rcases wi with⟨_|_ | k | _|_|_⟩|_<;>first | exact h.elim | skip
   have ei:=aW r2;subst ei;dsimp only at h
   cases q2:BQ ds.length k with
   | none=>rw[q2]at h;exact h.elim
   | some j =>
    rw[q2]at h;obtain⟨xs,ha,rd⟩:=m.obj n _ a q ea;refine BR ae s σ H _ _ v ov iv u Q I ro ri rv ⟨a,xs,k,j,rfl,rfl,ha,by rw[<- rd.len];exact q2,?_⟩;have nf:∀o x,H a≠some (.gW o x):=λo x z=>by rw[ha]at z;cases z
    have hg:ay ads ads H (bu H a (.lst (xs.set j v))):=⟨⟨[],by simp⟩,λb h n=>absurd h n,λb x nb h=>by rw[aq (by intro z;subst z;exact nb B7)];exact h,λb xs h=>by
     rw[aq (λz=>by subst z;rw[ha]at h;cases h)];exact h,λb o u h=>by rw[aq (λz=>by subst z;exact nf _ _ h)];exact h⟩
    obtain⟨g',m'⟩:=m.write (o:=.lst (ds.set j d)) (ho:=.lst (xs.set j v)) q ea nf ⟨_,aS,hg.oV _ _ (rd.setAt j r3)⟩;exact h _ ads hg m'
  | dK au =>
   obtain⟨ks,ha,rk⟩:=m.obj n _ a q ea;have nf:∀o x,H a≠some (.gW o x):=λo x z=>by rw[ha]at z;cases z
   have put:∀(k:bD),i=kV k->au.length<sizeLine->W5 X.K ads H Q (.ok () (M.set n (.dK (nj au k d))))->wpAny (model X.prog X.w) X.A (setItem ov iv u) (λ_ s'=>∃H',Inv X ae σ H' s'/\Q H') X.xe s:=by
    intro k ek hz h;subst ek;cases ro;refine zw hu I (Ft.k (k:=k) ha (by rw[<- rk.len];exact hz)) ri rv λs' I'=>⟨_,I',?_⟩
    have hg:ay ads ads H (bu H a (.dK (eL ks k v))):=⟨⟨[],by simp⟩,λb h n=>absurd h n,λb x nb h=>by rw[aq (by intro z;subst z;exact nb B7)];exact h,λb xs h=>by
     rw[aq (λz=>by subst z;rw[ha]at h;cases h)];exact h,λb o u h=>by rw[aq (λz=>by subst z;exact nf _ _ h)];exact h⟩
    obtain⟨g',m'⟩:=m.write (o:=.dK (nj au k d)) (ho:=.dK (eL ks k v)) q ea nf ⟨_,aS,hg.F9 _ _ (rk.put r3)⟩;exact h _ ads hg m'
   rcases wi with⟨_|_ | k | k | _|_⟩|_<;>first | exact h.elim | skip
   ·have ei:=aW r2;subst ei;dsimp only at h;split at h
    ·rename_i hz
     exact put (Sum.inl k) rfl hz h
    ·exact h.elim
   ·have ei:=eO r2;subst ei;dsimp only at h;split at h
    ·rename_i hz
     exact put (Sum.inr k) rfl hz h
    ·exact h.elim
  | kF _=>exact h.elim
  | dT _=>exact h.elim
  | dF _=>exact h.elim
end
end
section
variable [EX]
structure CC where
 N:List Str
 names:List (Str×NameKind)
 fs:List (Str×Nat)
 gs:List (Str×Int)
 xs:List (Str×Addr×Str)
noncomputable def NL(cc:CC)(x:Str):Bool:=match cc.names.lookup x with
 | some .local=>true
 | some .cell=>true
 | some .free=>true
 | _=>false
noncomputable def glob(cc:CC)(x:Str):Bool:=match cc.names.lookup x with
 | some .globalImplicit=>true
 | _=>false
noncomputable def cL(x:Str):Bool:=!(x==("__debug__" : Str)) && !(x==("__classdict__" : Str)) && !(x==("__name__" : Str))
theorem bQ{p:Prop}[d:Decidable p]{f:p->Bool}(h:(if h:p then f h else false)=true):p:=by
 cases d with
 | isTrue q=>exact q
 | isFalse q=>rw[dif_neg q]at h;exact absurd h aY
noncomputable def gm(e:Expr)(f:BoolOp->List Expr->Pos->Bool):Bool:=if h:e.ctorIdx=0 then Expr.BoolOp.elim (motive_1:=λ_=>Bool) e h f else false
theorem fG{P:Expr->Prop}{e:Expr}{f:BoolOp->List Expr->Pos->Bool}(h:gm e f=true)(k:∀a b c,f a b c=true->P (.BoolOp a b c)):P e :=
 Expr.BoolOp.elim (motive_1:=λe=>gm e f=true->P e) e (bQ h) (λa b c h=>k a b c h) h
noncomputable def qX(e:Expr)(f:Expr->Operator->Expr->Pos->Bool):Bool:=if h:e.ctorIdx=2 then Expr.BinOp.elim (motive_1:=λ_=>Bool) e h f else false
theorem wb{P:Expr->Prop}{e:Expr}{f:Expr->Operator->Expr->Pos->Bool}(h:qX e f=true)(k:∀a b c d,f a b c d=true->P (.BinOp a b c d)):P e :=
 Expr.BinOp.elim (motive_1:=λe=>qX e f=true->P e) e (bQ h) (λa b c d h=>k a b c d h) h
noncomputable def e7(e:Expr)(f:UnaryOp->Expr->Pos->Bool):Bool:=if h:e.ctorIdx=3 then Expr.UnaryOp.elim (motive_1:=λ_=>Bool) e h f else false
theorem eX{P:Expr->Prop}{e:Expr}{f:UnaryOp->Expr->Pos->Bool}(h:e7 e f=true)(k:∀a b c,f a b c=true->P (.UnaryOp a b c)):P e :=
 Expr.UnaryOp.elim (motive_1:=λe=>e7 e f=true->P e) e (bQ h) (λa b c h=>k a b c h) h
noncomputable def qY(e:Expr)(f:Expr->Expr->Expr->Pos->Bool):Bool:=if h:e.ctorIdx=5 then Expr.IfExp.elim (motive_1:=λ_=>Bool) e h f else false
theorem wc{P:Expr->Prop}{e:Expr}{f:Expr->Expr->Expr->Pos->Bool}(h:qY e f=true)(k:∀a b c d,f a b c d=true->P (.IfExp a b c d)):P e :=
 Expr.IfExp.elim (motive_1:=λe=>qY e f=true->P e) e (bQ h) (λa b c d h=>k a b c d h) h
noncomputable def we(e:Expr)(f:List (Option Expr)->List Expr->Pos->Bool):Bool:=if h:e.ctorIdx=6 then Expr.Dict.elim (motive_1:=λ_=>Bool) e h f else false
theorem zP{P:Expr->Prop}{e:Expr}{f:List (Option Expr)->List Expr->Pos->Bool}(h:we e f=true)(k:∀a b c,f a b c=true->P (.Dict a b c)):P e :=
 Expr.Dict.elim (motive_1:=λe=>we e f=true->P e) e (bQ h) (λa b c h=>k a b c h) h
noncomputable def gG(e:Expr)(f:Expr->List Comprehension->Scope->Pos->Bool):Bool:=if h:e.ctorIdx=8 then Expr.ListComp.elim (motive_1:=λ_=>Bool) e h f else false
theorem iU{P:Expr->Prop}{e:Expr}{f:Expr->List Comprehension->Scope->Pos->Bool}(h:gG e f=true)(k:∀a b c d,f a b c d=true->P (.ListComp a b c d)):P e :=
 Expr.ListComp.elim (motive_1:=λe=>gG e f=true->P e) e (bQ h) (λa b c d h=>k a b c d h) h
noncomputable def gn(e:Expr)(f:Expr->List CmpOp->List Expr->Pos->Bool):Bool:=if h:e.ctorIdx=15 then Expr.Compare.elim (motive_1:=λ_=>Bool) e h f else false
theorem gH{P:Expr->Prop}{e:Expr}{f:Expr->List CmpOp->List Expr->Pos->Bool}(h:gn e f=true)(k:∀a b c d,f a b c d=true->P (.Compare a b c d)):P e :=
 Expr.Compare.elim (motive_1:=λe=>gn e f=true->P e) e (bQ h) (λa b c d h=>k a b c d h) h
noncomputable def gI(e:Expr)(f:Expr->List Expr->List Keyword->Pos->Bool):Bool:=if h:e.ctorIdx=16 then Expr.Call.elim (motive_1:=λ_=>Bool) e h f else false
theorem e8{P:Expr->Prop}{e:Expr}{f:Expr->List Expr->List Keyword->Pos->Bool}(h:gI e f=true)(k:∀a b c d,f a b c d=true->P (.Call a b c d)):P e :=
 Expr.Call.elim (motive_1:=λe=>gI e f=true->P e) e (bQ h) (λa b c d h=>k a b c d h) h
noncomputable def cG(e:Expr)(f:Const->Nat->Pos->Bool):Bool:=if h:e.ctorIdx=19 then Expr.Constant.elim (motive_1:=λ_=>Bool) e h f else false
theorem cf{P:Expr->Prop}{e:Expr}{f:Const->Nat->Pos->Bool}(h:cG e f=true)(k:∀a b c,f a b c=true->P (.Constant a b c)):P e :=
 Expr.Constant.elim (motive_1:=λe=>cG e f=true->P e) e (bQ h) (λa b c h=>k a b c h) h
noncomputable def ie(e:Expr)(f:Expr->Str->Pos->Bool):Bool:=if h:e.ctorIdx=20 then Expr.Attribute.elim (motive_1:=λ_=>Bool) e h f else false
theorem nC{P:Expr->Prop}{e:Expr}{f:Expr->Str->Pos->Bool}(h:ie e f=true)(k:∀a b c,f a b c=true->P (.Attribute a b c)):P e :=
 Expr.Attribute.elim (motive_1:=λe=>ie e f=true->P e) e (bQ h) (λa b c h=>k a b c h) h
noncomputable def dJ(e:Expr)(f:Expr->Expr->Pos->Bool):Bool:=if h:e.ctorIdx=21 then Expr.Subscript.elim (motive_1:=λ_=>Bool) e h f else false
theorem d4{P:Expr->Prop}{e:Expr}{f:Expr->Expr->Pos->Bool}(h:dJ e f=true)(k:∀a b c,f a b c=true->P (.Subscript a b c)):P e :=
 Expr.Subscript.elim (motive_1:=λe=>dJ e f=true->P e) e (bQ h) (λa b c h=>k a b c h) h
noncomputable def eE(e:Expr)(f:Str->Pos->Bool):Bool:=if h:e.ctorIdx=23 then Expr.Name.elim (motive_1:=λ_=>Bool) e h f else false
theorem bY{P:Expr->Prop}{e:Expr}{f:Str->Pos->Bool}(h:eE e f=true)(k:∀a b,f a b=true->P (.Name a b)):P e :=
 Expr.Name.elim (motive_1:=λe=>eE e f=true->P e) e (bQ h) (λa b h=>k a b h) h
noncomputable def wg(e:Expr)(f:List Expr->Pos->Bool):Bool:=if h:e.ctorIdx=24 then Expr.List.elim (motive_1:=λ_=>Bool) e h f else false
theorem zQ{P:Expr->Prop}{e:Expr}{f:List Expr->Pos->Bool}(h:wg e f=true)(k:∀a b,f a b=true->P (.List a b)):P e :=
 Expr.List.elim (motive_1:=λe=>wg e f=true->P e) e (bQ h) (λa b h=>k a b h) h
noncomputable def l9(e:Expr)(f:List Expr->Nat->Pos->Bool):Bool:=if h:e.ctorIdx=25 then Expr.Tuple.elim (motive_1:=λ_=>Bool) e h f else false
theorem jo{P:Expr->Prop}{e:Expr}{f:List Expr->Nat->Pos->Bool}(h:l9 e f=true)(k:∀a b c,f a b c=true->P (.Tuple a b c)):P e :=
 Expr.Tuple.elim (motive_1:=λe=>l9 e f=true->P e) e (bQ h) (λa b c h=>k a b c h) h
noncomputable def l_(e:Expr)(f:Option Expr->Option Expr->Option Expr->Pos->Bool):Bool:=if h:e.ctorIdx=26 then Expr.Slice.elim (motive_1:=λ_=>Bool) e h f else false
theorem nD{P:Expr->Prop}{e:Expr}{f:Option Expr->Option Expr->Option Expr->Pos->Bool}(h:l_ e f=true)(k:∀a b c d,f a b c d=true->P (.Slice a b c d)):P e :=
 Expr.Slice.elim (motive_1:=λe=>l_ e f=true->P e) e (bQ h) (λa b c d h=>k a b c d h) h
noncomputable def jV(e:Stmt)(f:Option Expr->Pos->Bool):Bool:=if h:e.ctorIdx=3 then Stmt.Return.elim (motive_2:=λ_=>Bool) e h f else false
theorem lI{P:Stmt->Prop}{e:Stmt}{f:Option Expr->Pos->Bool}(h:jV e f=true)(k:∀a b,f a b=true->P (.Return a b)):P e :=
 Stmt.Return.elim (motive_2:=λe=>jV e f=true->P e) e (bQ h) (λa b h=>k a b h) h
noncomputable def qZ(e:Stmt)(f:Option Expr->Option Expr->Pos->Bool):Bool:=if h:e.ctorIdx=16 then Stmt.Raise.elim (motive_2:=λ_=>Bool) e h f else false
theorem wj{P:Stmt->Prop}{e:Stmt}{f:Option Expr->Option Expr->Pos->Bool}(h:qZ e f=true)(k:∀a b c,f a b c=true->P (.Raise a b c)):P e :=
 Stmt.Raise.elim (motive_2:=λe=>qZ e f=true->P e) e (bQ h) (λa b c h=>k a b c h) h
noncomputable def ig(e:Stmt)(f:List Expr->Expr->Pos->Bool):Bool:=if h:e.ctorIdx=5 then Stmt.Assign.elim (motive_2:=λ_=>Bool) e h f else false
theorem ik{P:Stmt->Prop}{e:Stmt}{f:List Expr->Expr->Pos->Bool}(h:ig e f=true)(k:∀a b c,f a b c=true->P (.Assign a b c)):P e :=
 Stmt.Assign.elim (motive_2:=λe=>ig e f=true->P e) e (bQ h) (λa b c h=>k a b c h) h
noncomputable def CF(e:Stmt)(f:Expr->Expr->List Stmt->List Stmt->Pos->Bool):Bool:=if h:e.ctorIdx=9 then Stmt.For.elim (motive_2:=λ_=>Bool) e h f else false
theorem CG{P:Stmt->Prop}{e:Stmt}{f:Expr->Expr->List Stmt->List Stmt->Pos->Bool}(h:CF e f=true)(k:∀a b c d e,f a b c d e=true->P (.For a b c d e)):P e :=
 Stmt.For.elim (motive_2:=λe=>CF e f=true->P e) e (bQ h) (λa b c d e h=>k a b c d e h) h
noncomputable def Lb(e:Stmt)(f:Expr->List Stmt->List Stmt->Pos->Bool):Bool:=if h:e.ctorIdx=12 then Stmt.If.elim (motive_2:=λ_=>Bool) e h f else false
theorem Gx{P:Stmt->Prop}{e:Stmt}{f:Expr->List Stmt->List Stmt->Pos->Bool}(h:Lb e f=true)(k:∀a b c d,f a b c d=true->P (.If a b c d)):P e :=
 Stmt.If.elim (motive_2:=λe=>Lb e f=true->P e) e (bQ h) (λa b c d h=>k a b c d h) h
noncomputable def wk(e:Stmt)(f:Expr->Pos->Bool):Bool:=if h:e.ctorIdx=24 then Stmt.Expr.elim (motive_2:=λ_=>Bool) e h f else false
theorem zR{P:Stmt->Prop}{e:Stmt}{f:Expr->Pos->Bool}(h:wk e f=true)(k:∀a b,f a b=true->P (.Expr a b)):P e :=
 Stmt.Expr.elim (motive_2:=λe=>wk e f=true->P e) e (bQ h) (λa b h=>k a b h) h
noncomputable def wm(e:Stmt)(f:Pos->Bool):Bool:=if h:e.ctorIdx=25 then Stmt.Pass.elim (motive_2:=λ_=>Bool) e h f else false
theorem zS{P:Stmt->Prop}{e:Stmt}{f:Pos->Bool}(h:wm e f=true)(k:∀a,f a=true->P (.Pass a)):P e :=
 Stmt.Pass.elim (motive_2:=λe=>wm e f=true->P e) e (bQ h) (λa h=>k a h) h
noncomputable def q_(e:Stmt)(f:Pos->Bool):Bool:=if h:e.ctorIdx=26 then Stmt.Break.elim (motive_2:=λ_=>Bool) e h f else false
theorem wq{P:Stmt->Prop}{e:Stmt}{f:Pos->Bool}(h:q_ e f=true)(k:∀a,f a=true->P (.Break a)):P e :=
 Stmt.Break.elim (motive_2:=λe=>q_ e f=true->P e) e (bQ h) (λa h=>k a h) h
noncomputable def jq(e:Stmt)(f:Pos->Bool):Bool:=if h:e.ctorIdx=27 then Stmt.Continue.elim (motive_2:=λ_=>Bool) e h f else false
theorem oY{P:Stmt->Prop}{e:Stmt}{f:Pos->Bool}(h:jq e f=true)(k:∀a,f a=true->P (.Continue a)):P e :=
 Stmt.Continue.elim (motive_2:=λe=>jq e f=true->P e) e (bQ h) (λa h=>k a h) h
def isInt(k:Int):Const->Bool
 | .int j=>k==j
 | _=>false
def Gy:Const->Bool
 | .none=>true
 | _=>false
def isNone(e:Expr):Bool:=cG e λc _ _=>Gy c
def Gz:Const->Bool
 | .bool true=>true
 | _=>false
def rf(e:Expr):Bool:=cG e λc _ _=>Gz c
def xZ:BoolOp->Bool
 | .And=>true
 | .Or=>false
def CH:UnaryOp->Bool
 | .USub=>true
 | _=>false
def Iq:UnaryOp->Bool
 | .Not=>true
 | _=>false
def jW(e:Expr):Bool:=!Nat.beq e.ctorIdx 26
noncomputable def iB(e:Expr):Bool:=[23,16,21,24,25,19,2].contains e.ctorIdx
def nE(e:Expr):Bool:=!(gI e λf as ks _=>Nat.beq f.ctorIdx 23&&as.isEmpty&&ks.isEmpty)
def aX(e:Expr):Bool:=!Nat.beq e.ctorIdx 22
noncomputable def CI:Bi->Str
 | .len => "len" | .max2 => "max" | .min2 => "min" | .qU => "int" | .list1 => "list" | .tuple1 => "tuple" | .fC => "repr" | .pL _ => "isinstance" | .all1 => "all" | .F_ => "any" | .pM => "dict" | .min1 => "min" | .Ga => "max" | .xR => "sorted"
noncomputable def CJ:Me->Str
 | .append => "append" | .insert => "insert" | .reverse => "reverse" | .extend => "extend" | .remove => "remove" | .clear => "clear" | .pop => "pop"
noncomputable def dm:List Str:=["len","max","min","int","list","tuple","repr","isinstance","all","any","bool","str","dict","range","enumerate","zip","sorted","set"]
noncomputable def P2:Me->Bool
 | .append=>true | .insert=>true | .reverse=>false | .extend=>false | .remove=>false | .clear=>false | .pop=>false
noncomputable def Lc:Bi->Bool
 | .all1=>false
 | .F_=>false
 | .min1=>false
 | .Ga=>false
 | .xR=>false
 | .pL _=>false
 | _=>true
def isStr(k:Str):Const->Bool
 | .str s=>k==s
 | _=>false
def jX:List Str->List (Option Expr)->Bool
 | [],[]=>true
 | k::ks,some e::es=>(cG e λc _ _=>isStr k c)&&jX ks es
 | _,_=>false
noncomputable def eP(sc:Scope):List Str:=(sc.names.filter λy=>y.2 == .local||y.2 == .free||y.2 == .cell).map (·.1)
def nF(cc:CC)(sc:Scope):List (Option Nat):=(eP sc).map λx=>if sc.names.lookup x==some .free then cc.N.findIdx? (· == x) else none
def pP(cc:CC)(sc:Scope):CC:=⟨eP sc,sc.names,cc.fs,cc.gs,[]⟩
def t_(cc:CC)(sc:Scope):Bool:=sc.kind == .function&&sc.names.all (λy=>y.2 != .cell||sc.names.lookup y.1==some .cell)&&sc.names.all (λy=>y.2 != .local||sc.names.lookup y.1==some .local)&&decide (eP sc).Nodup &&
 sc.names.all (λy=>y.2 != .free||(sc.names.lookup y.1==some .free&&(cc.names.lookup y.1==some .cell||cc.names.lookup y.1==some .free)))
def jY(cc:CC):List Nat->List Expr->Bool
 | [],[]=>true
 | i::tg,e::es=>(eE e λx _=>cc.N[i]? == some x&&(cc.names.lookup x==some .local||cc.names.lookup x==some .cell))&&jY cc tg es
 | _,_=>false
def iV(cc:CC)(tg:List Nat)(e:Expr):Bool:=match tg with
 | []=>false
 | [i]=>jY cc [i] [e]
 | i::j::r=>l9 e λes _ _=>jY cc (i::j::r) es&&decide ((i::j::r).length<20)
def iC(e:Expr):Bool:=Nat.beq e.ctorIdx 25
def fU(e:Expr):Bool:=!Nat.beq e.ctorIdx 7
noncomputable def Vf:D->Const->Bool
 | .int i,.int j=>i==j
 | .bl i,.bool j=>i==j
 | .str i,.str j=>i==j
 | .aL,.none=>true
 | _,_=>false
noncomputable def Ld:D->Const->Bool
 | .int i,.int j=>i == -j
 | _,_=>false
def CK(d:D)(e:Expr):Bool:=(cG e λc _ _=>Vf d c)||e7 e λop x _=>CH op&&cG x λc _ _=>Ld d c
def CL:Bi->Option Ty
 | .pL t=>some t
 | _=>none
theorem wt{b:Bi}{t:Ty}(h:CL b=some t):b=.pL t:=by
 cases b<;>first | (cases h;rfl) | cases h
mutual
noncomputable def cg(cc:CC):C->Expr->Bool
 | .dH i,e=>eE e λx _=>cc.N[i]? == some x&&NL cc x&&cL x
 | .bb d,e=>CK d e
 | .bin op a b,e=>qX e λl o r _=>o==Gk op&&cg cc a l&&cg cc b r
 | .cmp op a b,e=>gn e λl os rs _=>match os,rs with
  | [o],[r]=>o==KZ op && !behindInMarks o r&&(if op=.qT\/op=.fy then isNone r else true)&&cg cc a l&&cg cc b r
  | _,_=>false
 | .chain o1 o2 a b c,e=>gn e λl os rs _=>match os,rs with
  | [p,q],[m,r]=>p==KZ o1&&q==KZ o2 && !lastMarks [p,q] [m,r] && !(decide (o1=.qT)||decide (o1=.fy)||decide (o2=.qT)||decide (o2=.fy))&&cg cc a l&&cg cc b m&&cg cc c r
  | _,_=>false
 | .eC cs,e=>gm e λop es _=>xZ op&&cq cc cs es && !es.isEmpty
 | .gj cs,e=>gm e λop es _=>!xZ op&&cq cc cs es && !es.isEmpty
 | .neg a,e=>e7 e λop x _=>Iq op&&cg cc a x
 | .ite t a b,e=>qY e λc x y _=>lb cc t c&&cg cc a x&&cg cc b y
 | .tup cs,e=>l9 e λes _ _=>cq cc cs es
 | .lst cs,e=>wg e λes _=>cq cc cs es
 | .sub a b,e=>dJ e λe i _=>jW i&&cg cc a e&&cg cc b i
 | .jz a lo hi,e=>dJ e λe i _=>l_ i λl h st _=>st.isNone&&cg cc a e&&Le cc lo l&&Le cc hi h
 | .Aw a k,e=>dJ e λe i _=>l_ i λl h st _=>match l,h,st with
  | none,none,some ke=>((cG ke λc _ _=>isInt k c)||e7 ke λop x _=>CH op&&cG x λc _ _=>isInt (-k) c)&&cg cc a e
  | _,_,_=>false
 | .call f cs,e=>gI e λfe args jZ _=>eE fe λx _=>match args,jZ with
  | e::es,[]=>cc.fs[f]? == some (x,cs.length)&&glob cc x&&cL x&&cq cc cs (e::es)
  | _,_=>false
 | .bi b cs,e=>gI e λfe args jZ _=>eE fe λx _=>jZ.isEmpty&&x==CI b&&glob cc x&&match CL b,args with
  | some t,[e,f]=>(eE f λy _=>y==Str.ofString (t9 t)&&glob cc y&&decide (t≠.none))&&cq cc cs [e]
  | none,e::es=>Lc b&&cq cc cs (e::es)
  | _,_=>false
 | .me m o cs,e=>gI e λfe es jZ cp=>ie fe λe n ap=>jZ.isEmpty&&n==CJ m&&P2 m&&ap.endLine==cp.line&&nE e&&cg cc o e&&cq cc cs es&&decide (es.length<20)
 | .zF ks cs,e=>we e λkeys vs _=>(jX ks keys&&decide ks.Nodup && !keys.isEmpty&&decide (keys.length<=15)&&cq cc cs vs&&decide (ks.length=cs.length))||(ks.isEmpty&&cs.isEmpty&&keys.isEmpty&&vs.isEmpty)
 | .lB tp cs,e=>false
 | .Gd x v,e=>eE e λy _=>y==x&&glob cc x&&cL x&&cc.gs.lookup x==some v
 | .gD ng a,e=>gn e λl os rs _=>match os,rs with
  | [o],[r]=>o==(if ng=true then CmpOp.IsNot else CmpOp.Is) && !behindInMarks o r&&rf r&&cg cc a l
  | _,_=>false
 | .comp k dC tg cond elt cO,e=>gG e λel gens sc _=>match gens with
  | [⟨t,aK,ifs,as⟩]=>as==0&&t_ cc sc&&decide (cO=nF cc sc)&&rg cc k dC t aK&&iV (pP cc sc) tg t&&GA (pP cc sc) cond ifs&&cg (pP cc sc) elt el
  | _=>false
noncomputable def GA(cc:CC):Option eN->List Expr->Bool
 | none,[]=>true
 | some t,[e]=>lb cc t e
 | _,_=>false
noncomputable def rg(cc:CC):SK->List C->Expr->Expr->Bool
 | .seq,[c],_,e=>fU e&&cg cc c e
 | .fT,[c],_,e=>gI e λfe args jZ _=>eE fe λx _=>match args,jZ with
  | [a],[]=>x == "range" && glob cc x&&aX a&&cg cc c a
  | _,_=>false
 | .enum,[c],t,e=>gI e λfe args jZ _=>eE fe λx _=>match args,jZ with
  | [a],[]=>x == "enumerate" && iC t&&glob cc x&&aX a&&cg cc c a
  | _,_=>false
 | _,_,_,_=>false
noncomputable def lb(cc:CC):eN->Expr->Bool
 | .eC ts,e=>gm e λop es _=>xZ op&&nG cc ts es && !es.isEmpty
 | .gj ts,e=>gm e λop es _=>!xZ op&&nG cc ts es && !es.isEmpty
 | .neg a,e=>e7 e λop x _=>Iq op&&lb cc a x
 | .val (.cmp op a b),e=>cg cc (.cmp op a b) e
 | .val (.chain o1 o2 a b c),e=>cg cc (.chain o1 o2 a b c) e
 | .val (.gD ng a),e=>cg cc (.gD ng a) e
 | .val c,e=>iB e&&cg cc c e
noncomputable def nG(cc:CC):List eN->List Expr->Bool
 | [],[]=>true
 | c::cs,e::es=>lb cc c e&&nG cc cs es
 | _,_=>false
noncomputable def cq(cc:CC):List C->List Expr->Bool
 | [],[]=>true
 | c::cs,e::es=>aX e&&cg cc c e&&cq cc cs es
 | _,_=>false
noncomputable def Le(cc:CC):Option C->Option Expr->Bool
 | none,none=>true
 | some c,some e=>cg cc c e
 | _,_=>false
end
end
section
variable [EX]
noncomputable def Lf(X:Cx)(x:Str):NameKind->Prop
 | .local=>X.env.kindOf x=some .local
 | .cell=>X.env.kindOf x=some .cell
 | .free=>X.env.kindOf x=some .cell\/X.env.kindOf x=some .free
 | .globalImplicit=>X.env.kindOf x=some .globalImplicit
 | _=>True
def Ax(K:Frag)(n:Nat)(F:List D->ag->bS W):Sp:=λvs H Q E=>∃ads M ds,aU K ads H M/\aV K ads H ds vs/\ds.length=n/\@cC (vY E) K ads H Q (F ds M)
structure Good (kk:Nat) (X:Cx) (cc:CC) (G:a_):Prop where
 calm:X.calm=true
 room:eB kk X.A
 N:X.N=cc.N
 nd:cc.N.Nodup
 kinds:∀x k,cc.names.lookup x=some k->Lf X x k
 ZC:∀x,cc.names.lookup x=some .cell->X.fn x=true
 blt:∀b∈dm,X.mg b=none
 W6:∀(x:Str)(v:Int),cc.gs.lookup x=some v->∃t,X.mg x=some (.int v t)
 fns:∀(i:Nat)(x:Str)(n:Nat),cc.fs[i]?=some (x,n)->∃f fd ps,dQ X.prog X.w X.K X.mg X.base (sC X.prog X.w) kk f fd ps (Ax X.K n (G i))/\X.mg x=some (.ref f)/\PySem.W.keepIn X.K (.ref f)=true/\Binds X.K fd ps []
 ex:∃E:XK,qC (sC X.prog X.w) X E/\∀{K:Frag}{ads:List Addr}{H:Hp}{x:vX}{M:ag},EX.post K ads H x M->(vY E).post K ads H x M
section
variable {kk:Nat} {X:Cx} {cc:CC} {G:a_}
theorem Good.NL(g:Good kk X cc G){x:Str}(h:NL cc x=true):OE X.env.scope x:=by
 unfold Ev.NL at h;split at h
 ·rename_i q;exact .inl (g.kinds x _ q)
 ·rename_i q;exact .inr (.inl (g.kinds x _ q))
 ·rename_i q
  rcases g.kinds x _ q with z | z
  ·exact .inr (.inl z)
  ·exact .inr (.inr z)
 ·cases h
theorem Good.gl(g:Good kk X cc G){x:Str}(h:glob cc x=true):Gl X x:=by
 unfold glob at h;split at h
 ·rename_i q;exact g.kinds x _ q
 ·cases h
theorem iE{x:Str}(h:cL x=true):(x==("__debug__" : Str))=false/\(x==("__classdict__" : Str))=false/\x≠("__name__" : Str):=by
 unfold cL at h;simp only[aR,i4]at h;exact⟨h.1.1,h.1.2,λz=>by rw[z]at h;simp at h⟩
theorem gp{e:Expr}{t u:TE}(h:PE X e t)(f:∀σ H Q,u σ H Q->t σ H Q):PE X e u:=λae s σ H Q I q=>h ae s σ H Q I (f σ H Q q)
theorem GB{e:Expr}{t u:TT}(h:PT X e t)(f:∀σ H Q,u σ H Q->t σ H Q):PT X e u:=λae s σ H Q I q=>h ae s σ H Q I (f σ H Q q)
theorem Su{e:Expr}{t u:TT}(h:PW X e t)(f:∀σ H Q,u σ H Q->t σ H Q):PW X e u:=λwh ae s σ H Q I q=>h wh ae s σ H Q I (f σ H Q q)
theorem NM{e:List Expr}{t u:TA}(h:PA X e t)(f:∀σ H Q,u σ H Q->t σ H Q):PA X e u:=λp ae s σ H Q I q=>h p ae s σ H Q I (f σ H Q q)
theorem cP{e:Expr}(h:aX e=true)(es:List Expr)(env:Env):starEach (e::es) env=(false,eval e env)::starEach es env:=by
 cases e<;>first | rfl | exact absurd (show false=true from h) aY
theorem P4{i:Nat}{e:Expr}(g:Good kk X cc G)(h:cg cc (.dH i) e=true):PE X e (tE X.K (ev G (.dH i))):=by
 refine bY (P:=λe=>PE X e _) h λx pos h=>?_;have h:(cc.N[i]? == some x&&NL cc x&&cL x)=true:=h;simp only[aR,iI]at h;obtain⟨⟨h1,h2⟩,h3⟩:=h;obtain⟨d1,d2,_⟩:=iE h3;refine gp (g_ (i:=i) (by rw[g.N];exact h1) (g.NL h2) d1 d2) λσ H Q q=>?_;obtain⟨ads,M,ρ,s,q⟩:=q;simp only[Cn]at q;split at q
 ·rename_i d e
  obtain⟨v,Va,r⟩:=s.en i d e;exact⟨v,Va,q.plain s.mem r⟩
 ·exact q.elim
theorem ua{d:D}{v:V}(hd:∀ads H,RD X.K ads H d v)(σ:L2.St)(H:Hp)(Q:VK)(h:tE X.K (ev G (.bb d)) σ H Q):tC v σ H Q:=by
 obtain⟨ads,M,ρ,s,q⟩:=h;exact cC.plain q s.mem (hd _ _)
theorem P5{d:D}{e:Expr}(h:cg cc (.bb d) e=true):PE X e (tE X.K (ev G (.bb d))):=by
 replace h:CK d e=true:=h
 rcases(yZ _ _).mp h with h | h
 case inr =>
  refine eX (P:=λe=>PE X e _) h λop x pos h=>?_
  replace h:=(aR _ _).mp h
  have h0:=h.1
  replace h:=h.2
  cases op<;>first | exact absurd (show false=true from h0) aY | skip
  refine cf (P:=λx=>PE X (.UnaryOp .USub x pos) _) h λc j p h=>?_;clear h0;rcases d with _|_ | i | _|_|_|_<;>first | exact absurd (show false=true from h) aY | skip
  rcases c with _|_ | k | _|_|_|_|_<;>first | exact absurd (show false=true from h) aY | skip
  have h:i=-k:=eq_of_beq h;subst h;exact gp (HY By qu) λσ H Q q=>⟨k,rfl,ua (λ_ _=>cU _) σ H Q q⟩
 refine cf (P:=λe=>PE X e _) h λc j pos h=>?_
 cases d with
 | int i =>
  cases c<;>first | exact absurd (show false=true from h) aY | skip
  have h:=eq_of_beq (show(i==_)=true from h);subst h;exact gp qu (ua λ_ _=>cU _)
 | bl i =>
  cases c<;>first | exact absurd (show false=true from h) aY | skip
  have h:=eq_of_beq (show(i==_)=true from h);subst h;exact gp HR (ua λ_ _=>lH _)
 | str i =>
  cases c<;>first | exact absurd (show false=true from h) aY | skip
  have h:=eq_of_beq (show(i==_)=true from h);subst h;exact gp qv (ua λ_ _=>v_ _)
 | aL =>
  cases c<;>first | exact absurd (show false=true from h) aY | skip
  exact gp JO (ua λ_ _=>k_)
 | tup _=>cases h
 | aw _=>cases h
 | ls _=>cases h
theorem P6{op:El}{a b:C}{e:Expr}(x8:∀e,cg cc a e=true->PE X e (tE X.K (ev G a)))(Lg:∀e,cg cc b e=true->PE X e (tE X.K (ev G b)))(h:cg cc (.bin op a b) e=true):PE X e (tE X.K (ev G (.bin op a b))):=by
 refine wb (P:=λe=>PE X e _) h λl o r pos h=>?_;have h:(o==Gk op&&cg cc a l&&cg cc b r)=true:=h;simp only[aR,iI]at h;obtain⟨⟨rfl,h1⟩,h2⟩:=h;refine gp (OV (KY op) (x8 l h1) (Lg r h2)) λσ H Q q=>?_;exact two (λm r1 r2 h=>⟨_,_,_,_,m,r1,r2,h⟩) q
theorem wu{K:Frag}{ads:List Addr}{H:Hp}{Q:VK}{o:bS Bool}(h:cC K ads H Q (o.bind λr M=>.ok (.d (.bl r)) M)):Gn K ads H Q o:=by
 cases o with
 | ok b M=>exact λH' ar g m=>h (.bl b) H' ar g m (show RD K ar H' (.bl b) _ from lH _)
 | err _ _=>exact h
 | af=>exact h
theorem CM{b:C}{e:Expr}(hn:isNone e=true)(hb:cg cc b e=true):b=.bb .aL:=by
 revert hb;refine cf (P:=λe=>cg cc b e=true->b=.bb .aL) hn λc j pos hn hb=>?_;cases c<;>first | cases hn | skip
 cases b<;>first | exact absurd (show false=true from hb) aY | skip
 rename_i d
 cases d<;>first | rfl | exact absurd (show false=true from hb) aY
theorem Ir{op:zK}{a b:C}{e:Expr}(g:Good kk X cc G)(x8:∀e,cg cc a e=true->PE X e (tE X.K (ev G a)))(Lg:∀e,cg cc b e=true->PE X e (tE X.K (ev G b)))(h:cg cc (.cmp op a b) e=true):PE X e (tE X.K (ev G (.cmp op a b)))/\PT X e (jL (tE X.K (ev G (.cmp op a b)))):=by
 refine gH (P:=λe=>PE X e (tE X.K (ev G (.cmp op a b)))/\PT X e (jL (tE X.K (ev G (.cmp op a b))))) h λl ops rs pos h=>?_;rcases ops with _|⟨o,_|⟨o2,ops⟩⟩<;>rcases rs with _|⟨r,_|⟨r2,rs⟩⟩<;>first | exact absurd (show false=true from h) aY | skip
 have h:(o==KZ op && !behindInMarks o r&&(if op=.qT\/op=.fy then isNone r else true)&&cg cc a l&&cg cc b r)=true:=h;simp only[aR,iI,i4]at h;obtain⟨⟨⟨⟨rfl,hm⟩,hn⟩,h1⟩,h2⟩:=h;have Sr:=g.room.un
 have pF:∀σ H Q,tE X.K (ev G (.cmp op a b)) σ H Q->Fh (Gp X.K op) (tE X.K (ev G a)) (tE X.K (ev G b)) σ H Q:=by
  intro σ H Q q;by_cases W7:op=.qT\/op=.fy
  ·rw[aF W7]at hn;have eb:=CM hn h2;subst eb;obtain⟨ads,M,ρ,s,q⟩:=q;refine dZ s q λw M1 v H1 ai s1 kE q1=>⟨ai,M1,ρ,s1,?_⟩;intro vy H2 bU g2 m2 ry;have ey:=nA ry;refine⟨bU,M1,w,.d .aL,m2,g2.rw kE,(show RD X.K bU H2 .aL vy by rw[ey];exact k_),λ_=>ey,?_⟩;have q1:cC X.K ai H1 Q ((aZ op w (.d .aL) M1).bind λr M=>.ok (.d (.bl r)) M):=q1;exact wu (q1.shift g2 s1.mem m2)
  ·exact two (λm r1 r2 h=>⟨_,_,_,_,m,r1,r2,λz=>absurd z W7,wu h⟩) q
 exact⟨gp (qA (la ∅ op) (x8 l h1) (Lg r h2) hm) pF,GB (qB (la ∅ op) (x8 l h1) (Lg r h2) hm) λσ H Q q=>pF σ H _ q⟩
theorem P7{a:C}{e:Expr}(x8:∀e,cg cc a e=true->PE X e (tE X.K (ev G a)))(h:cg cc (.neg a) e=true):PE X e (tE X.K (ev G (.neg a))):=by
 refine eX (P:=λe=>PE X e _) h λop x pos h=>?_;obtain⟨h0,h⟩:=(aR _ _).mp h;cases op<;>first | exact absurd (show false=true from h0) aY | skip
 refine gp (JT (x8 x h)) λσ H Q q=>?_;obtain⟨ads,M,ρ,s,q⟩:=q;refine dZ s q λw M1 v H1 ai s1 kE q1=>?_;rcases w with⟨_ | b | _|_|_|_⟩|_<;>first | exact q1.elim | skip
 exact⟨b,iT kE,cC.plain q1 s1.mem (lH _)⟩
theorem P8{cs:List C}{e:Expr}(ih:∀es,cq cc cs es=true->PA X es (Eo X.K (bB G cs)))(h:cg cc (.tup cs) e=true):PE X e (tE X.K (ev G (.tup cs))):=by
 refine jo (P:=λe=>PE X e _) h λes k pos h=>?_;refine gp (mS (ih es h)) λσ H Q q=>?_;obtain⟨ads,M,ρ,s,q⟩:=q;refine⟨ads,M,ρ,s,?_⟩;simp only[Cq]at q
 cases hq:bB G cs ρ M with
 | ok ds M1 =>
  rw[hq]at q;have q:cC X.K ads H Q (if ds.length<=sizeLine then .ok (.d (.tup ds)) M1 else .af):=q;intro vs H1 ai g1 m1 r1;split at q
  ·rename_i hz
   exact⟨by rw[<- r1.len];exact hz,λp hp=>(q.shift g1 s.mem m1).tuple m1 r1 hp⟩
  ·exact q.elim
 | err _ _=>rw[hq]at q;exact q
 | af=>rw[hq]at q;exact q
theorem P9{cs:List C}{e:Expr}(ih:∀es,cq cc cs es=true->PA X es (Eo X.K (bB G cs)))(h:cg cc (.lst cs) e=true):PE X e (tE X.K (ev G (.lst cs))):=by
 refine zQ (P:=λe=>PE X e _) h λes pos h=>?_;refine gp (Kd (ih es h)) λσ H Q q=>?_;obtain⟨ads,M,ρ,s,q⟩:=q;refine⟨ads,M,ρ,s,?_⟩;simp only[Cr]at q
 cases hq:bB G cs ρ M with
 | ok ds M1 =>
  rw[hq]at q;have q:cC X.K ads H Q (if ds.length<=sizeLine then .ok (.lv ds) M1 else .af):=q;intro vs H1 ai g1 m1 r1;split at q
  ·rename_i hz
   exact⟨by rw[<- r1.len];exact hz,λp hp=>(q.shift g1 s.mem m1).list m1 r1 hp⟩
  ·exact q.elim
 | err _ _=>rw[hq]at q;exact q
 | af=>rw[hq]at q;exact q
theorem nH{K:Frag}{ads ar:List Addr}{H H':Hp}{w:W}{v:V}{M1:ag}{d:D}{M2:ag}(m:aU K ads H M)(g:ay ads ar H H')(m1:aU K ar H' M1)(r:KU K ar H H' w v)(e:own w M1=.ok d M2):∃bU,ay ads bU H H'/\aU K bU H' M2/\RD K bU H' d v:=by
 cases w with
 | d x=>cases e;exact⟨ar,g,m1,r⟩
 | lv ds =>
  cases e;obtain⟨a,xs,rfl,h0,h1,n,r⟩:=r;refine⟨ar++[a],⟨?_,λb hb nb=>?_,g.kept,g.eW,g.gW⟩,m1.push n ⟨xs,h1,r⟩,?_⟩
  ·obtain⟨t,e⟩:=g.pre;exact⟨t++[a],by rw[e,yU]⟩
  ·rcases eV.mp hb with z | z
   ·exact g.new b z nb
   ·have:b=a:=by simpa using z
    subst this;exact h0
  ·unfold RD;exact⟨a,rfl,by rw[sH (by rw[m1.len];exact aE _)];simp[m1.len]⟩
theorem P_:PA X [] (Eo X.K (bB G [])):=NM ff λσ H Q q=>by
 obtain⟨ads,M,ρ,s,q⟩:=q;exact q [] H ads (ay.refl _ _) s.mem (by unfold aV;rfl)
theorem Lh{c:C}{cs:List C}{e:Expr}{es:List Expr}(hs:aX e=true)(ha:PE X e (tE X.K (ev G c)))(hr:PA X es (Eo X.K (bB G cs))):PA X (e::es) (Eo X.K (bB G (c::cs))):=by
 refine NM (cF ha hr (cP hs es X.env)) λσ H Q q=>?_;obtain⟨ads,M,ρ,s,q⟩:=q;refine⟨ads,M,ρ,s,?_⟩;simp only[gk,e6]at q
 cases hq:ev G c ρ M with
 | ok w M1 =>
  rw[hq]at q;intro v H1 ai g1 m1 r1
  cases ho:own w M1 with
  | ok d M2 =>
   have q:nu X.K ads H Q ((own w M1).bind λd M=>(bB G cs ρ M).bind λds M=>.ok (d::ds) M):=q;rw[ho]at q;obtain⟨bU,g2,m2,rd⟩:=nH s.mem g1 m1 r1 ho;refine⟨bU,M2,ρ,s.grow g2 m2,?_⟩;have q:nu X.K ads H Q ((bB G cs ρ M2).bind λds M=>.ok (d::ds) M):=q
   cases CN:bB G cs ρ M2 with
   | ok ds M3 =>
    rw[CN]at q;intro vs H3 d5 g3 m3 r3;refine q (v::vs) H3 d5 (g2.trans g3) m3 ?_;unfold aV;exact⟨v,vs,rfl,g3.rd _ _ rd,r3⟩
   | err _ _=>rw[CN]at q;exact EX.shift (show EX.post X.K ads H _ _ from q) g2
   | af=>rw[CN]at q;exact q
  | err _ _=>cases w<;>cases ho
  | af=>cases w<;>cases ho
 | err _ _=>rw[hq]at q;exact q
 | af=>rw[hq]at q;exact q
end
end
section
variable [EX]
section
variable {kk:Nat} {X:Cx} {cc:CC} {G:a_}
theorem x9{o1 o2:zK}{a b c:C}{e:Expr}(g:Good kk X cc G)(x8:∀e,cg cc a e=true->PE X e (tE X.K (ev G a)))(Lg:∀e,cg cc b e=true->PE X e (tE X.K (ev G b)))(Sv:∀e,cg cc c e=true->PE X e (tE X.K (ev G c)))(h:cg cc (.chain o1 o2 a b c) e=true):PE X e (tE X.K (ev G (.chain o1 o2 a b c)))/\PT X e (jL (tE X.K (ev G (.chain o1 o2 a b c)))):=by
 refine gH (P:=λe=>PE X e (tE X.K (ev G (.chain o1 o2 a b c)))/\PT X e (jL (tE X.K (ev G (.chain o1 o2 a b c))))) h λl ops rs pos h=>?_;rcases ops with _|⟨p,_|⟨q,_|⟨_,ops⟩⟩⟩<;>rcases rs with _|⟨m,_|⟨r,_|⟨_,rs⟩⟩⟩<;>first | exact absurd (show false=true from h) aY | skip
 have h:(p==KZ o1&&q==KZ o2 && !lastMarks [p,q] [m,r] && !(decide (o1=.qT)||decide (o1=.fy)||decide (o2=.qT)||decide (o2=.fy))&&cg cc a l&&cg cc b m&&cg cc c r)=true:=h;simp only[aR,iI,i4,EK,decide_eq_false_iff_not]at h;obtain⟨⟨⟨⟨⟨⟨rfl,rfl⟩,hm⟩,⟨⟨⟨n1,n2⟩,n3⟩,n4⟩⟩,h1⟩,h2⟩,h3⟩:=h;have Sr:=g.room.un
 have pF:∀σ H Q,tE X.K (ev G (.chain o1 o2 a b c)) σ H Q->vI (Gp X.K o1) (Gp X.K o2) (tE X.K (ev G a)) (tE X.K (ev G b)) (tE X.K (ev G c)) σ H Q:=by
  intro σ H Q q;obtain⟨ads,M,ρ,s,q⟩:=q;refine dZ s q λx M1 v H1 ai s1 rx q1=>?_;refine⟨ai,M1,ρ,s1,?_⟩
  cases hq:ev G b ρ M1 with
  | ok y M2 =>
   rw[hq]at q1;intro vy H2 bU g2 m2 ry;have q2:cC X.K ai H1 Q ((aZ o1 x y M2).bind λr M=>if r then (ev G c ρ M).bind λz M=>(aZ o2 y z M).bind λr M=>.ok (.d (.bl r)) M else .ok (.d (.bl false)) M):=q1;have s2:=s1.grow g2 m2;refine⟨bU,M2,x,y,m2,g2.rw rx,ry.rw,λz=>absurd z (by simp[n1,n2]),?_⟩
   cases hc:aZ o1 x y M2 with
   | ok k M3 =>
    rw[hc]at q2;intro H3 d5 g3 m3;have s3:=s2.grow g3 m3;have ZD:=g3.rw ry.rw;refine⟨k,rfl,?_⟩;have q3:cC X.K d5 H3 Q (if k then (ev G c ρ M3).bind λz M=>(aZ o2 y z M).bind λr M=>.ok (.d (.bl r)) M else .ok (.d (.bl false)) M3):=cC.shift q2 (g2.trans g3) s1.mem m3
    cases k with
    | false=>rw[aP (by simp)]at q3⊢;exact cC.plain q3 m3 (lH _)
    | true =>
     rw[aF rfl]at q3⊢;refine⟨d5,M3,ρ,s3,?_⟩
     cases hz:ev G c ρ M3 with
     | ok z M4 =>
      rw[hz]at q3;intro vz H4 GC g4 m4 rz;exact⟨GC,M4,y,z,m4,g4.rw ZD,rz.rw,λw=>absurd w (by simp[n3,n4]),wu (cC.shift (o:=(aZ o2 y z M4).bind λr M=>.ok (.d (.bl r)) M) q3 g4 m3 m4)⟩
     | err _ _=>rw[hz]at q3;exact q3
     | af=>rw[hz]at q3;exact q3
   | err _ _=>rw[hc]at q2;exact EX.shift (show EX.post X.K ai H1 _ _ from q2) g2
   | af=>rw[hc]at q2;exact q2
  | err _ _=>rw[hq]at q1;exact q1
  | af=>rw[hq]at q1;exact q1
 exact⟨gp (Bz (la ∅ o1) (la ∅ o2) (x8 l h1) (Lg m h2) (Sv r h3) hm) pF,GB (BA (la ∅ o1) (la ∅ o2) (x8 l h1) (Lg m h2) (Sv r h3) hm) λσ H Q q=>pF σ H _ q⟩
theorem zT{P:Expr->Prop}{e:Expr}(h:rf e=true)(k:∀j p,P (.Constant (.bool true) j p)):P e:=cf (P:=P) h λc j p h=>by
 rcases c with _ | b | _|_|_|_|_|_<;>first | exact absurd (show false=true from h) aY | skip
 cases b with
 | true=>exact k j p
 | false=>exact absurd (show false=true from h) aY
theorem ub{ng:Bool}{a:C}{σ:L2.St}{H:Hp}{Q:VK}(q:tE X.K (ev G (.gD ng a)) σ H Q):Fh (λx y H Q=>∃b c,x=.bl b/\y=.bl c/\Q (.bl (ng != (b==c))) H) (tE X.K (ev G a)) (tC (.bl true)) σ H Q:=by
 obtain⟨ads,M,ρ,s,q⟩:=q;refine dZ s q λw M1 v H1 ai s1 kE q1=>?_;rcases w with⟨_ | b | _|_|_|_|_⟩|_<;>first | exact q1.elim | skip
 refine⟨b,true,iT kE,rfl,?_⟩;rw[show(b==true)=b from by cases b<;>rfl];exact cC.plain q1 s1.mem (lH _)
theorem CO{ng:Bool}{a:C}{e:Expr}(x8:∀e,cg cc a e=true->PE X e (tE X.K (ev G a)))(h:cg cc (.gD ng a) e=true):PE X e (tE X.K (ev G (.gD ng a)))/\PT X e (jL (tE X.K (ev G (.gD ng a)))):=by
 refine gH (P:=λe=>PE X e (tE X.K (ev G (.gD ng a)))/\PT X e (jL (tE X.K (ev G (.gD ng a))))) h λl ops rs pos h=>?_;rcases ops with _|⟨o,_|⟨o2,ops⟩⟩<;>rcases rs with _|⟨r,_|⟨r2,rs⟩⟩<;>first | exact absurd (show false=true from h) aY | skip
 have h:(o==(if ng=true then CmpOp.IsNot else CmpOp.Is) && !behindInMarks o r&&rf r&&cg cc a l)=true:=h;simp only[aR,iI,i4]at h;obtain⟨⟨⟨ho,hm⟩,hr⟩,h1⟩:=h;have pc:PE X r (tC (.bl true)):=zT (P:=λr=>PE X r (tC (.bl true))) hr λj p=>HR
 cases ng with
 | true =>
  have ho:o=.IsNot:=ho;subst ho
  have pF:∀σ H Q,tE X.K (ev G (.gD true a)) σ H Q->Fh (λx y H Q=>∃b c,x=.bl b/\y=.bl c/\Q (.bl (!(b==c))) H) (tE X.K (ev G a)) (tC (.bl true)) σ H Q:=λσ H Q q=>by
   have:=ub q;simp only[Bool.true_bne]at this;exact this
  exact⟨gp (qA xO (x8 l h1) pc hm) pF,GB (qB xO (x8 l h1) pc hm) λσ H Q q=>pF σ H _ q⟩
 | false =>
  have ho:o=.Is:=ho;subst ho
  have pF:∀σ H Q,tE X.K (ev G (.gD false a)) σ H Q->Fh (λx y H Q=>∃b c,x=.bl b/\y=.bl c/\Q (.bl (b==c)) H) (tE X.K (ev G a)) (tC (.bl true)) σ H Q:=λσ H Q q=>by
   have:=ub q;simp only[Bool.false_bne]at this;exact this
  exact⟨gp (qA B9 (x8 l h1) pc hm) pF,GB (qB B9 (x8 l h1) pc hm) λσ H Q q=>pF σ H _ q⟩
theorem GD{ng:Bool}{a:C}(ρ:En)(M:ag)(w:W)(M':ag)(h:ev G (.gD ng a) ρ M=.ok w M'):∃k,w=.d (.bl k):=by
 simp only[xV]at h
 cases h1:ev G a ρ M with
 | ok x M1 =>
  rw[h1]at h;rcases x with⟨_ | b | _|_|_|_|_⟩|_<;>first | cases h | skip
  exact⟨_,rfl⟩
 | err _ _=>rw[h1]at h;cases h
 | af=>rw[h1]at h;cases h
theorem Iu{op:BoolOp}:∀(cs:List C)(es:List Expr)(pos:Pos),(∀c∈cs,∀e,cg cc c e=true->PE X e (tE X.K (ev G c)))->cq cc cs es=true->es≠[]->PE X (.BoolOp .And es pos) (tE X.K (iS G cs))
 | [],[],_,_,_,h=>absurd rfl h
 | [],_::_,_,_,h,_=>by cases h
 | _::_,[],_,_,h,_=>by cases h
 | c::cs,e::es,pos,ih,h,_=>by
  have h':(aX e&&cg cc c e&&cq cc cs es)=true:=h;simp only[aR]at h';have he:=ih c ez e h'.1.2
  cases es with
  | nil =>
   cases cs with
   | cons _ _=>cases h'.2
   | nil =>
    refine gp (Bl he) λσ H Q q=>?_;obtain⟨ads,M,ρ,s,q⟩:=q;refine⟨ads,M,ρ,s,?_⟩;simp only[kX,ji]at q
    cases hq:ev G c ρ M with
    | ok w M1=>rw[hq]at q;exact q
    | err _ _=>rw[hq]at q;exact q
    | af=>rw[hq]at q;exact q
  | cons e2 es =>
   cases cs with
   | nil=>cases h'.2
   | cons c2 cs =>
    have hr:=Iu (op:=op) (c2::cs) (e2::es) pos (λc hc=>ih c (dP _ hc)) h'.2 (by simp);refine gp (JS he hr) λσ H Q q=>?_;obtain⟨ads,M,ρ,s,q⟩:=q
    have q:cC X.K ads H Q ((ev G c ρ M).bind λx M=>match c2::cs,x with
     | [],x=>.ok x M
     | _,.d (.bl true)=>iS G (c2::cs) ρ M
     | _,.d (.bl false)=>.ok (.d (.bl false)) M
     | _,_=>.af):=by unfold iS at q;exact q
    refine dZ s q λw M1 v H1 ai s1 kE q1=>?_;rcases w with⟨_ | b | _|_|_|_⟩|_<;>first | exact q1.elim | skip
    refine⟨b,iT kE,?_⟩
    cases b with
    | false=>rw[aP (by simp)];exact cC.plain q1 s1.mem (lH _)
    | true=>rw[aF rfl];exact⟨ai,M1,ρ,s1,q1⟩
theorem Qa:∀(cs:List C)(es:List Expr)(pos:Pos),(∀c∈cs,∀e,cg cc c e=true->PE X e (tE X.K (ev G c)))->cq cc cs es=true->es≠[]->PE X (.BoolOp .Or es pos) (tE X.K (oX G cs))
 | [],[],_,_,_,h=>absurd rfl h
 | [],_::_,_,_,h,_=>by cases h
 | _::_,[],_,_,h,_=>by cases h
 | c::cs,e::es,pos,ih,h,_=>by
  have h':(aX e&&cg cc c e&&cq cc cs es)=true:=h;simp only[aR]at h';have he:=ih c ez e h'.1.2
  cases es with
  | nil =>
   cases cs with
   | cons _ _=>cases h'.2
   | nil =>
    refine gp (Bl he) λσ H Q q=>?_;obtain⟨ads,M,ρ,s,q⟩:=q;refine⟨ads,M,ρ,s,?_⟩;simp only[nk,kY]at q
    cases hq:ev G c ρ M with
    | ok w M1=>rw[hq]at q;exact q
    | err _ _=>rw[hq]at q;exact q
    | af=>rw[hq]at q;exact q
  | cons e2 es =>
   cases cs with
   | nil=>cases h'.2
   | cons c2 cs =>
    have hr:=Qa (c2::cs) (e2::es) pos (λc hc=>ih c (dP _ hc)) h'.2 (by simp);refine gp (ON he hr) λσ H Q q=>?_;obtain⟨ads,M,ρ,s,q⟩:=q
    have q:cC X.K ads H Q ((ev G c ρ M).bind λx M=>match c2::cs,x with
     | [],x=>.ok x M
     | _,.d (.bl false)=>oX G (c2::cs) ρ M
     | _,.d (.bl true)=>.ok (.d (.bl true)) M
     | _,_=>.af):=by unfold oX at q;exact q
    refine dZ s q λw M1 v H1 ai s1 kE q1=>?_;rcases w with⟨_ | b | _|_|_|_⟩|_<;>first | exact q1.elim | skip
    refine⟨b,iT kE,?_⟩
    cases b with
    | true=>rw[aF rfl];exact cC.plain q1 s1.mem (lH _)
    | false=>rw[aP (by simp)];exact⟨ai,M1,ρ,s1,q1⟩
theorem rh{K:Frag}{ads:List Addr}{H:Hp}{M:ag}{ρ:En}{σ:L2.St}{o:En->ag->bS Bool}{k:Bool->ag->bS Bool}{Q:Bool->Hp->Prop}{R:Bool->Hp->Prop}(s:SR K ads M ρ σ H)(h:Em K ads H Q ((o ρ M).bind k))(hk:∀w M1 H1 ai,SR K ai M1 ρ σ H1->Em K ai H1 Q (k w M1)->R w H1):oH K o σ H R:=by
 refine⟨ads,M,ρ,s,?_⟩
 cases q:o ρ M with
 | ok w M1 =>
  rw[q]at h;have h:Em K ads H Q (k w M1):=h;exact λH1 ai g1 m1=>hk w M1 H1 ai (s.grow g1 m1) (h.shift g1)
 | err _ _=>rw[q]at h;exact h
 | af=>rw[q]at h;exact h
theorem Qb{c:C}{σ:L2.St}{H:Hp}{Q:Bool->Hp->Prop}(h:oH X.K (d_ G (.val c)) σ H Q):tE X.K (ev G c) σ H λx H'=>∃k,BB X.K x H' k/\Q k H':=by
 obtain⟨ads,M,ρ,s,q⟩:=h;refine⟨ads,M,ρ,s,?_⟩;simp only[qW]at q
 cases hq:ev G c ρ M with
 | ok w M1 =>
  rw[hq]at q;intro v H1 ai g1 m1 r1;have q:Em X.K ads H Q (match oW M1 w with | some r=>.ok r M1 | none=>.af):=q
  cases ht:oW M1 w with
  | none=>rw[ht]at q;exact q.elim
  | some k=>rw[ht]at q;exact⟨k,P0 m1 r1.rw ht,q H1 ai g1 m1⟩
 | err _ _=>rw[hq]at q;exact q
 | af=>rw[hq]at q;exact q
theorem GF{e:Expr}(h:iB e=true)(env:Env):∀iN,isTrue e env iN=(do let v <- iN;standAt e.pos;holding [v] (truthy v)):=by
 cases e<;>first | (intro _;rfl) | exact absurd (show false=true from h) aY
theorem GG{c:C}{e:Expr}(hp:iB e=true)(he:PE X e (tE X.K (ev G c))):PT X e (oH X.K (d_ G (.val c))) :=
 GB (BC he (GF hp X.env)) λσ H Q q=>Qb q
theorem wz{c:C}{e:Expr}(hb:∀ρ M w M',ev G c ρ M=.ok w M'->∃k,w=.d (.bl k))(he:PT X e (jL (tE X.K (ev G c)))):PT X e (oH X.K (d_ G (.val c))):=by
 refine GB he λσ H Q q=>?_;obtain⟨ads,M,ρ,s,q⟩:=q;refine⟨ads,M,ρ,s,?_⟩;simp only[qW]at q
 cases hq:ev G c ρ M with
 | ok w M1 =>
  rw[hq]at q;obtain⟨k,rfl⟩:=hb _ _ _ _ hq;intro v H1 ai g1 m1 r1;exact⟨k,iT r1,q H1 ai g1 m1⟩
 | err _ _=>rw[hq]at q;exact q
 | af=>rw[hq]at q;exact q
theorem Li{op:zK}{a b:C}(ρ:En)(M:ag)(w:W)(M':ag)(h:ev G (.cmp op a b) ρ M=.ok w M'):∃k,w=.d (.bl k):=by
 simp only[Co]at h
 cases h1:ev G a ρ M with
 | ok x M1 =>
  rw[h1]at h;simp only[bS.bind]at h
  cases h2:ev G b ρ M1 with
  | ok y M2 =>
   rw[h2]at h;simp only at h
   cases h3:aZ op x y M2 with
   | ok k M3=>rw[h3]at h;cases h;exact⟨k,rfl⟩
   | err _ _=>rw[h3]at h;cases h
   | af=>rw[h3]at h;cases h
  | err _ _=>rw[h2]at h;cases h
  | af=>rw[h2]at h;cases h
 | err _ _=>rw[h1]at h;cases h
 | af=>rw[h1]at h;cases h
theorem CP{o1 o2:zK}{a b c:C}(ρ:En)(M:ag)(w:W)(M':ag)(h:ev G (.chain o1 o2 a b c) ρ M=.ok w M'):∃k,w=.d (.bl k):=by
 simp only[tZ]at h
 cases h1:ev G a ρ M with
 | ok x M1 =>
  rw[h1]at h;simp only[bS.bind]at h
  cases h2:ev G b ρ M1 with
  | ok y M2 =>
   rw[h2]at h;simp only at h
   cases h3:aZ o1 x y M2 with
   | ok k M3 =>
    rw[h3]at h;simp only at h
    cases k with
    | false=>cases h;exact⟨_,rfl⟩
    | true =>
     simp only[dA]at h
     cases h4:ev G c ρ M3 with
     | ok z M4 =>
      rw[h4]at h;simp only at h
      cases h5:aZ o2 y z M4 with
      | ok k M5=>rw[h5]at h;cases h;exact⟨k,rfl⟩
      | err _ _=>rw[h5]at h;cases h
      | af=>rw[h5]at h;cases h
     | err _ _=>rw[h4]at h;cases h
     | af=>rw[h4]at h;cases h
   | err _ _=>rw[h3]at h;cases h
   | af=>rw[h3]at h;cases h
  | err _ _=>rw[h2]at h;cases h
  | af=>rw[h2]at h;cases h
 | err _ _=>rw[h1]at h;cases h
 | af=>rw[h1]at h;cases h
theorem Qc{t:eN}{e:Expr}{pos:Pos}(ih:PT X e (oH X.K (d_ G t))):PT X (.UnaryOp .Not e pos) (oH X.K (d_ G (.neg t))):=by
 refine GB (JR ih) λσ H Q q=>?_;obtain⟨ads,M,ρ,s,q⟩:=q;exact rh s q λw M1 H1 ai s1 q1=>q1 H1 ai (ay.refl _ _) s1.mem
theorem Iv:∀(ts:List eN)(es:List Expr)(pos:Pos),(∀t∈ts,∀e,lb cc t e=true->PT X e (oH X.K (d_ G t)))->nG cc ts es=true->es≠[]->PW X (.BoolOp .And es pos) (oH X.K (fD G ts))
 | [],[],_,_,_,h=>absurd rfl h
 | [],_::_,_,_,h,_=>by cases h
 | _::_,[],_,_,h,_=>by cases h
 | c::cs,e::es,pos,ih,h,_=>by
  have h':(lb cc c e&&nG cc cs es)=true:=h;simp only[aR]at h';have he:=ih c ez e h'.1
  cases es with
  | nil =>
   cases cs with
   | cons _ _=>cases h'.2
   | nil =>
    refine Su (xC he) λσ H Q q=>?_;obtain⟨ads,M,ρ,s,q⟩:=q;refine⟨ads,M,ρ,s,?_⟩;simp only[kZ,jk]at q
    cases hq:d_ G c ρ M with
    | ok w M1=>rw[hq]at q;exact q
    | err _ _=>rw[hq]at q;exact q
    | af=>rw[hq]at q;exact q
  | cons e2 es =>
   cases cs with
   | nil=>cases h'.2
   | cons c2 cs =>
    have hr:=Iv (c2::cs) (e2::es) pos (λc hc=>ih c (dP _ hc)) h'.2 (by simp);refine Su (Bk he hr) λσ H Q q=>?_;obtain⟨ads,M,ρ,s,q⟩:=q
    have q:Em X.K ads H Q ((d_ G c ρ M).bind λx M=>match c2::cs,x with
     | [],x=>.ok x M
     | _,true=>fD G (c2::cs) ρ M
     | _,false=>.ok false M):=by unfold fD at q;exact q
    refine rh s q λw M1 H1 ai s1 q1=>?_
    cases w with
    | false=>rw[aP (by simp)];exact q1 H1 ai (ay.refl _ _) s1.mem
    | true=>rw[aF rfl];exact⟨ai,M1,ρ,s1,q1⟩
theorem Iw:∀(ts:List eN)(es:List Expr)(pos:Pos),(∀t∈ts,∀e,lb cc t e=true->PT X e (oH X.K (d_ G t)))->nG cc ts es=true->es≠[]->PW X (.BoolOp .Or es pos) (oH X.K (fE G ts))
 | [],[],_,_,_,h=>absurd rfl h
 | [],_::_,_,_,h,_=>by cases h
 | _::_,[],_,_,h,_=>by cases h
 | c::cs,e::es,pos,ih,h,_=>by
  have h':(lb cc c e&&nG cc cs es)=true:=h;simp only[aR]at h';have he:=ih c ez e h'.1
  cases es with
  | nil =>
   cases cs with
   | cons _ _=>cases h'.2
   | nil =>
    refine Su (JQ he) λσ H Q q=>?_;obtain⟨ads,M,ρ,s,q⟩:=q;refine⟨ads,M,ρ,s,?_⟩;simp only[k8,jm]at q
    cases hq:d_ G c ρ M with
    | ok w M1=>rw[hq]at q;exact q
    | err _ _=>rw[hq]at q;exact q
    | af=>rw[hq]at q;exact q
  | cons e2 es =>
   cases cs with
   | nil=>cases h'.2
   | cons c2 cs =>
    have hr:=Iw (c2::cs) (e2::es) pos (λc hc=>ih c (dP _ hc)) h'.2 (by simp);refine Su (OK he hr) λσ H Q q=>?_;obtain⟨ads,M,ρ,s,q⟩:=q
    have q:Em X.K ads H Q ((d_ G c ρ M).bind λx M=>match c2::cs,x with
     | [],x=>.ok x M
     | _,false=>fE G (c2::cs) ρ M
     | _,true=>.ok true M):=by unfold fE at q;exact q
    refine rh s q λw M1 H1 ai s1 q1=>?_
    cases w with
    | true=>rw[aF rfl];exact q1 H1 ai (ay.refl _ _) s1.mem
    | false=>rw[aP (by simp)];exact⟨ai,M1,ρ,s1,q1⟩
theorem Qd{t:eN}{a b:C}{c x y:Expr}{pos:Pos}(ht:PT X c (oH X.K (d_ G t)))(ha:PE X x (tE X.K (ev G a)))(hb:PE X y (tE X.K (ev G b))):PE X (.IfExp c x y pos) (tE X.K (ev G (.ite t a b))):=by
 refine gp (Bm ht ha hb) λσ H Q q=>?_;obtain⟨ads,M,ρ,s,q⟩:=q;refine⟨ads,M,ρ,s,?_⟩;simp only[Cp]at q
 cases hq:d_ G t ρ M with
 | ok w M1 =>
  rw[hq]at q;intro H1 ai g1 m1;have q:cC X.K ads H Q (if w then ev G a ρ M1 else ev G b ρ M1):=q;have q:=q.shift g1 s.mem m1
  cases w with
  | true=>rw[aF rfl]at q⊢;exact⟨ai,M1,ρ,s.grow g1 m1,q⟩
  | false=>rw[aP (by simp)]at q⊢;exact⟨ai,M1,ρ,s.grow g1 m1,q⟩
 | err _ _=>rw[hq]at q;exact q
 | af=>rw[hq]at q;exact q
end
end
section
variable [EX]
section
variable {kk:Nat} {X:Cx} {cc:CC} {G:a_}
theorem wA{b:Expr}(h:jW b=true):xJ b:=by
 intro o i;cases b<;>first | rfl | exact absurd (show false=true from h) aY
theorem Qe{a b:C}{e i:Expr}{pos:Pos}(g:Good kk X cc G)(hs:jW i=true)(ha:PE X e (tE X.K (ev G a)))(hb:PE X i (tE X.K (ev G b))):PE X (.Subscript e i pos) (tE X.K (ev G (.sub a b))):=by
 have Sr:=g.room.un;refine gp (Pc (K0 ∅) ha hb (wA hs)) λσ H Q q=>?_;exact two (λm r1 r2 h=>⟨_,_,_,_,m,r1,r2,h⟩) q
def Sw(K:Frag)(ads:List Addr)(H:Hp)(Q:Option Int->Hp->Prop):bS (Option Int)->Prop
 | .ok o M=>∀H' ar,ay ads ar H H'->aU K ar H' M->Q o H'
 | .err x M=>EX.post K ads H x M
 | .af=>False
def tO(K:Frag)(o:En->ag->bS (Option Int)):TO:=λσ H Q=>∃ads M ρ,SR K ads M ρ σ H/\Sw K ads H Q (o ρ M)
theorem Lj:PO X none (tO X.K (sE G none)):=λae s σ H Q I q=>FD ae s σ H Q I (by
 obtain⟨ads,M,ρ,s,q⟩:=q;exact q H ads (ay.refl _ _) s.mem)
theorem Lk{c:C}{e:Expr}(h:PE X e (tE X.K (ev G c))):PO X (some e) (tO X.K (sE G (some c))):=λae s σ H Q I q=>FE h ae s σ H Q I (by
 obtain⟨ads,M,ρ,s,q⟩:=q;refine⟨ads,M,ρ,s,?_⟩;simp only[nq,nr]at q
 cases hq:ev G c ρ M with
 | ok w M1 =>
  rw[hq]at q;intro v H1 ai g1 m1 r1;rcases w with⟨_|_ | i | _|_|_⟩|_<;>first | exact q.elim | skip
  exact⟨i,aW r1,q H1 ai g1 m1⟩
 | err _ _=>rw[hq]at q;exact q
 | af=>rw[hq]at q;exact q)
theorem Sw.shift{K:Frag}{ads ar:List Addr}{H H':Hp}{o:bS (Option Int)}{Q:Option Int->Hp->Prop}(p:Sw K ads H Q o)(g:ay ads ar H H'):Sw K ar H' Q o:=by
 cases o with
 | ok w Mw=>exact λH1 ai g1 m1=>p H1 ai (g.trans g1) m1
 | err _ _=>exact EX.shift p g
 | af=>exact p
theorem Qf{a:C}{lo hi:Option C}{e:Expr}{l h:Option Expr}{pos p2:Pos}(ha:PE X e (tE X.K (ev G a)))(hl:PO X l (tO X.K (sE G lo)))(hh:PO X h (tO X.K (sE G hi))):PE X (.Subscript e (.Slice l h none p2) pos) (tE X.K (ev G (.jz a lo hi))):=by
 refine gp (BO K1 ha hl hh) λσ H Q q=>?_;obtain⟨ads,M,ρ,s,q⟩:=q;refine dZ s q λw M1 v H1 ai s1 kE q1=>⟨ai,M1,ρ,s1,?_⟩
 cases hq:sE G lo ρ M1 with
 | ok o1 M2 =>
  rw[hq]at q1;have q1:cC X.K ai H1 Q ((sE G hi ρ M2).bind λh M=>ib w o1 h M):=q1;intro H2 bU g2 m2;have s2:=s1.grow g2 m2;refine⟨bU,M2,ρ,s2,?_⟩
  cases Vg:sE G hi ρ M2 with
  | ok o2 M3 =>
   rw[Vg]at q1;intro H3 d5 g3 m3;exact⟨d5,M3,w,m3,g3.rw (g2.rw kE),cC.shift (o:=ib w o1 o2 M3) q1 (g2.trans g3) s1.mem m3⟩
  | err _ _=>rw[Vg]at q1;exact EX.shift (show EX.post X.K ai H1 _ _ from q1) g2
  | af=>rw[Vg]at q1;exact q1
 | err _ _=>rw[hq]at q1;exact q1
 | af=>rw[hq]at q1;exact q1
theorem uc:∀(cs:List C)(ρ:En)(M:ag)(ds:List D)(M':ag),bB G cs ρ M=.ok ds M'->ds.length=cs.length
 | [],ρ,M,ds,M',h=>by cases h;rfl
 | c::cs,ρ,M,ds,M',h=>by
  simp only[gk,e6]at h
  cases h1:(ev G c ρ M).bind own with
  | ok d M1 =>
   rw[h1]at h;simp only[bS.bind]at h
   cases h2:bB G cs ρ M1 with
   | ok es M2=>rw[h2]at h;cases h;simp[uc cs ρ M1 es _ h2]
   | err _ _=>rw[h2]at h;cases h
   | af=>rw[h2]at h;cases h
  | err _ _=>rw[h1]at h;cases h
  | af=>rw[h1]at h;cases h
theorem fk{cs:List C}{es:List Expr}(h:cq cc cs es=true)(env:Env)(pos:Pos):(backTo pos (starEach es env)).any (·.1)=false:=by
 have:∀(cs:List C)(es:List Expr),cq cc cs es=true->(starEach es env).any (·.1)=false:=by
  intro cs
  induction cs with
  | nil=>intro es h;cases es with
   | nil=>rfl
   | cons _ _=>cases h
  | cons c cs ih =>
   intro es h
   cases es with
   | nil=>cases h
   | cons e es =>
    have h':(aX e&&cg cc c e&&cq cc cs es)=true:=h;simp only[aR]at h';rw[cP h'.1.1,AZ,ih es h'.2];rfl
 have e:=this cs es h;unfold backTo;simp only[List.any_map];exact e
theorem Ll{f:Nat}{cs:List C}{x:Str}{e:Expr}{es:List Expr}{p pos:Pos}(g:Good kk X cc G)(hf:cc.fs[f]?=some (x,cs.length))(hg:glob cc x=true)(hp:cL x=true)(hc:cq cc cs (e::es)=true)(ha:PA X (e::es) (Eo X.K (bB G cs))):PE X (.Call (.Name x p) (e::es) [] pos) (tE X.K (ev G (.call f cs))):=by
 obtain⟨fa,fd,ps,F,hm,hk,hb⟩:=g.fns f x _ hf;obtain⟨E,hE,im⟩:=g.ex
 have fO:aX e=true/\cq cc cs.tail es=true:=by
  cases cs with
  | nil=>cases hc
  | cons c cs =>
   have h':(aX e&&cg cc c e&&cq cc cs es)=true:=hc;simp only[aR]at h';exact⟨h'.1.1,h'.2⟩
 refine gp (Fq (pos:=pos) (p:=p) (E:=E) F g.room (g.gl hg) hm hk hb .nil hE ha (iE hp).1 (cP fO.1 es X.env) (fk fO.2 X.env pos)) λσ H Q q=>?_;obtain⟨ads,M,ρ,s,q⟩:=q;refine⟨ads,M,ρ,s,?_⟩;simp only[xU]at q
 cases hq:bB G cs ρ M with
 | ok ds M1 =>
  rw[hq]at q;intro vs H1 ai g1 m1 r1;refine⟨ai,M1,ds,m1,?_,uc cs ρ M ds M1 hq,cC.imp im (cC.shift (o:=G f ds M1) q g1 s.mem m1)⟩;rw[oK];exact r1
 | err _ _=>rw[hq]at q;exact q
 | af=>rw[hq]at q;exact q
def Qg(K:Frag)(ads:List Addr)(H:Hp)(Q:List V->Hp->Prop):bS (List W)->Prop
 | .ok ws M=>∀vs H' ar,ay ads ar H H'->aU K ar H' M->Io K ar H' ws vs->Q vs H'
 | .err x M=>EX.post K ads H x M
 | .af=>False
def NN(K:Frag)(o:En->ag->bS (List W)):TA:=λσ H Q=>∃ads M ρ,SR K ads M ρ σ H/\Qg K ads H Q (o ρ M)
theorem Qh:PA X [] (NN X.K (dk G [])):=NM ff λσ H Q q=>by
 obtain⟨ads,M,ρ,s,q⟩:=q;exact q [] H ads (ay.refl _ _) s.mem rfl
theorem Lm{c:C}{cs:List C}{e:Expr}{es:List Expr}(hs:aX e=true)(ha:PE X e (tE X.K (ev G c)))(hr:PA X es (NN X.K (dk G cs))):PA X (e::es) (NN X.K (dk G (c::cs))):=by
 refine NM (cF ha hr (cP hs es X.env)) λσ H Q q=>?_;obtain⟨ads,M,ρ,s,q⟩:=q;refine⟨ads,M,ρ,s,?_⟩;simp only[jU,iz]at q
 cases hq:ev G c ρ M with
 | ok w M1 =>
  rw[hq]at q;intro v H1 ai g1 m1 r1;refine⟨ai,M1,ρ,s.grow g1 m1,?_⟩;have q:Qg X.K ads H Q ((dk G cs ρ M1).bind λds M=>.ok (w::ds) M):=q
  cases CN:dk G cs ρ M1 with
  | ok ds M3 =>
   rw[CN]at q;intro vs H3 d5 g3 m3 r3;exact q (v::vs) H3 d5 (g1.trans g3) m3 ⟨v,vs,rfl,g3.rw r1.rw,r3⟩
  | err _ _=>rw[CN]at q;exact EX.shift (show EX.post X.K ads H _ _ from q) g1
  | af=>rw[CN]at q;exact q
 | err _ _=>rw[hq]at q;exact q
 | af=>rw[hq]at q;exact q
theorem il{b:Bi}{cs:List C}{σ:L2.St}{H:Hp}{Q:VK}(q:tE X.K (ev G (.bi b cs)) σ H Q):R5 (Ep X.K b) (NN X.K (dk G cs)) σ H Q:=by
 obtain⟨ads,M,ρ,s,q⟩:=q;refine⟨ads,M,ρ,s,?_⟩;simp only[Cs]at q
 cases hq:dk G cs ρ M with
 | ok ws M1 =>
  rw[hq]at q;intro vs H1 ai g1 m1 r1;exact⟨ai,M1,ws,m1,r1,cC.shift (o:=iL b ws M1) q g1 s.mem m1⟩
 | err _ _=>rw[hq]at q;exact q
 | af=>rw[hq]at q;exact q
theorem Vh{b:Bi}{cs:List C}{x:Str}{e:Expr}{es:List Expr}{p pos:Pos}(g:Good kk X cc G)(hb:Lc b=true)(hx:x=CI b)(hg:glob cc x=true)(hs:aX e=true)(hc:cq cc cs.tail es=true)(ha:PA X (e::es) (NN X.K (dk G cs))):PE X (.Call (.Name x p) (e::es) [] pos) (tE X.K (ev G (.bi b cs))):=by
 have x_:=g.gl hg;have fO:=cP hs es X.env;have jM:=fk hc X.env pos;have hm:X.mg x=none:=g.blt x (by subst hx;cases b<;>first | (show _∈dm;decide +kernel) | (exact absurd hb (by simp[Lc])));subst hx
 cases b with
 | len=>exact gp (fZ K5 x_ hm boot_len ha ⋯ ⋯ fO jM) λσ H Q q=>il q
 | max2=>exact gp (fZ (K6 g.calm) x_ hm boot_max ha ⋯ ⋯ fO jM) λσ H Q q=>il q
 | min2=>exact gp (fZ (K7 g.calm) x_ hm boot_min ha ⋯ ⋯ fO jM) λσ H Q q=>il q
 | fC=>exact gp (fZ (Gs g.room) x_ hm boot_repr ha ⋯ ⋯ fO jM) λσ H Q q=>il q
 | qU=>exact gp (iy K8 x_ hm ⋯ ha ⋯ ⋯ fO jM) λσ H Q q=>il q
 | list1=>exact gp (iy Gr x_ hm ⋯ ha ⋯ ⋯ fO jM) λσ H Q q=>il q
 | tuple1=>exact gp (iy CD x_ hm ⋯ ha ⋯ ⋯ fO jM) λσ H Q q=>il q
 | pM=>exact gp (iy (Gq g.calm) x_ hm ⋯ ha ⋯ ⋯ fO jM) λσ H Q q=>il q
 | all1=>cases hb
 | F_=>cases hb
 | pL t=>cases hb
 | xR=>cases hb
 | min1=>cases hb
 | Ga=>cases hb
theorem Vi{y:Str}{T:String}{pos:Pos}(hg:Gl X y)(hm:X.mg y=none)(hv:bootBuiltins y=some (.type T)) (hn:y≠ "__name__") (hd:(y==("__debug__" : Str))=false):PE X (.Name y pos) (tC (.ty T)) :=
 xB hg hm hv rfl hn hd
theorem Qi{t:Ty}{c:C}{x y:Str}{e:Expr}{p py pos:Pos}(g:Good kk X cc G) (hx:x = "isinstance") (ZE:glob cc x=true) (hy:y=Str.ofString (t9 t)) (ZF:glob cc y=true) (ht:t≠.none) (hs:aX e=true) (ha:PE X e (tE X.K (ev G c))):PE X (.Call (.Name x p) [e,.Name y py] [] pos) (tE X.K (ev G (.bi (.pL t) [c]))):=by
 have ZG:X.mg x=none:=g.blt x (by subst hx;show _∈dm;decide +kernel);have ZH:X.mg y=none:=g.blt y (by subst hy;cases t<;>first | exact absurd rfl ht | (show _∈dm;decide +kernel))
 have ZI:PE X (.Name y py) (tC (.ty (t9 t))):=by
  subst hy;cases t<;>first | exact absurd rfl ht | exact Vi (g.gl ZF) ZH ⋯ ⋯ ⋯
 have x_:=g.gl ZE;subst hx;refine gp (fZ (K_ t) x_ ZG boot_isinstance (cF ha (cF ZI ff) (cP hs _ X.env)) ⋯ ⋯ (cP hs _ X.env) rfl) λσ H Q q=>?_;obtain⟨ads,M,ρ,s,q⟩:=q;refine⟨ads,M,ρ,s,?_⟩;simp only[Cs,jU,iz]at q
 cases hq:ev G c ρ M with
 | ok w M1 =>
  rw[hq]at q;intro v H1 ai g1 m1 r1;exact⟨v,rfl,ai,M1,[w],m1,⟨v,[],rfl,r1.rw,rfl⟩,cC.shift (o:=iL (.pL t) [w] M1) q g1 s.mem m1⟩
 | err _ _=>rw[hq]at q;exact q
 | af=>rw[hq]at q;exact q
section
variable {prog:Program} {w:World} {A:Around} {E:Value->Shared->Prop} {s:Shared}
theorem rm{sl:Addr}{k:Int}{u:Tok}{n:Nat}{Q:Int×Int×Nat->Shared->Prop}(hs:s.heap.IsSliceOf sl .none .none (.int k u))(hk:k≠0)(h:Q ((Builtin.Slice.sliceAdjust none none k (n:Int)).1,k,Builtin.Slice.slicePlaces (Builtin.Slice.sliceAdjust none none k (n:Int)).1 (Builtin.Slice.sliceAdjust none none k (n:Int)).2 k) s):wpAny (model prog w) A (Builtin.Slice.sliceApplied (.ref sl) (pure (n:Int))) Q E s:=by
 obtain⟨os,BM,O8,FA⟩:=id hs;unfold Builtin.Slice.sliceApplied Builtin.Slice.sliceFields;refine aj (aj (fL BM FA (x:=.none) rfl (aj (fL BM FA (x:=.none) rfl (aj (fL BM FA (x:=.int k u) rfl (aO ?_)))))));refine aj (slicePart_int ?_);show wpAny _ _ (if (k==0)=true then _ else _) _ _ s;rw[aP (by simpa using hk)];refine aj (slicePart_none (aj (slicePart_none (aj (aO ?_)))));exact aO h
theorem rn{t sl:Addr}{aA:List Value}{k:Int}{u:Tok}{Q:Value->Shared->Prop}(ht:IsTup s.heap t aA.toArray)(hs:s.heap.IsSliceOf sl .none .none (.int k u))(hk:k≠0)(ZJ:k≠1)(hsz:(dI aA k).length<=sizeLine) (h:Q (.ref s.heap.objs.size) {s with heap:=s.heap.push {cls:=.type "tuple",data:=.seq (dI aA k).toArray}}):wpAny (model prog w) A (getItem (.ref t) (.ref sl)) Q E s:=by
 have Sx:sizeOk (.seq (dI aA k).toArray):=by
  show(dI aA k).toArray.size<=sizeLine;rw[df];exact hsz
 obtain⟨os,BM,O8,FA⟩:=id hs;have Ui:s.TypeIs (.ref sl) "slice" := ⟨os,BM,O8⟩;unfold getItem
 try with_reducible refine mK ?_
 first | refine aj (aO ?_) | skip
 refine aj (wpAny_sequenceKey ht.typeIs (by decide) ?_)
 refine aj (yO (name:=Str.ofString "__getitem__") ht.typeIs yM
  (yX yM ht.typeIs entry_tuple_getitem ?_ (args_tuple_getitem _ _)))
 show wpAny _ _ (Builtin.Tuple.tupleItemsOf (.ref t) >>= _) _ _ s;refine aj (tupleItemsOf_ ht ?_);refine aj (Bd Ui ?_);rw[aF (by decide)];refine aj (rm hs hk ?_)
 have NF:∀(a b:Bool),¬((a&&(k==(1:Int))&&b)=true):=by
  intro a b z;have:(k==(1:Int))=false:=oJ.mpr ZJ;rw[this]at z;simp at z
 dsimp only;rw[aP (NF _ _)];have e:∀(f:Nat->Nat)(l:List Nat),(l.filterMap λj=>aA.toArray[f j]?)=l.filterMap λj=>aA[f j]?:=λf l=>by simp
 rw[e];have hl:(aA.toArray.size:Int)=(aA.length:Int):=by simp
 rw[hl]
 first
  | exact aj (m:=Builtin.Tuple.tupleExact _) (lP (aO ⟨_,rfl,aO h⟩) Sx)
  | exact aj (m:=Builtin.Tuple.tupleExact _) (lP (aj (aO (aO ⟨_,rfl,aO h⟩))) Sx)
  | exact aj (aj (m:=Builtin.Tuple.tupleExact _) (lP (aO (aO ⟨_,rfl,aO h⟩)) Sx))
  | exact aj (aj (m:=Builtin.Tuple.tupleExact _) (lP (aO ⟨_,rfl,aO h⟩) Sx))
end
theorem ma{K:Frag}{ads:List Addr}{H:Hp}{ds:List D}{xs:List V}(r:aV K ads H ds xs)(f:Nat->Nat):∀js:List Nat,aV K ads H (js.filterMap λj=>ds[f j]?) (js.filterMap λj=>xs[f j]?)
 | []=>by simp;unfold aV;rfl
 | j::js=>by
  cases q:ds[f j]? with
  | none =>
   have:xs[f j]?=none:=by rw[vh]at q⊢;rw[<- r.len];exact q
   simp only[jD,q,this];exact ma r f js
  | some d =>
   obtain⟨v,e,rv⟩:=r.get q;simp only[jD,q,e];unfold aV;exact⟨_,_,rfl,rv,ma r f js⟩
theorem iF{xs:List V}{us:List Value}(r:aQ xs us)(f:Nat->Nat):∀js:List Nat,aQ (js.filterMap λj=>xs[f j]?) (js.filterMap λj=>us[f j]?)
 | []=>.nil
 | j::js=>by
  cases q:xs[f j]? with
  | none =>
   have:us[f j]?=none:=by rw[vh]at q⊢;rw[<- r.length];exact q
   simp only[jD,q,this];exact iF r f js
  | some d =>
   obtain⟨v,e,rv⟩:=r.get q;simp only[jD,q,e];exact .cons rv (iF r f js)
theorem Qj{a:C}{k:Int}{e ke:Expr}{pos p2:Pos}(ZK:PE X ke (tC (.int k)))(ha:PE X e (tE X.K (ev G a))):PE X (.Subscript e (.Slice none none (some ke) p2) pos) (tE X.K (ev G (.Aw a k))):=by
 intro ae s σ H Q I h;obtain⟨ads,M,ρ,sr,q⟩:=h
 have h1:tE X.K (ev G a) σ H (λx H1=>∃ai M1 w,aU X.K ai H1 M1/\RW X.K ai H1 w x/\cC X.K ai H1 Q (kW w k M1)):=by
  refine dZ sr q λw M1 v H1 ai s1 kE q1=>⟨ai,M1,w,s1.mem,kE,q1⟩
 refine Subscript_ (bX (ha ae s σ H _ I h1) ?_);rintro v s1 ⟨x,H1,I1,r1,ai,M1,w,m1,kE,q1⟩;rcases w with⟨_|_|_|_ | ds | _|_⟩|_<;>first | exact q1.elim | skip
 have kE:RD X.K ai H1 (.tup ds) x:=kE;unfold RD at kE;obtain⟨p,xs,rfl,hp,rd⟩:=kE;cases r1;simp only[kW]at q1;split at q1
 ·rename_i hk
  refine wpAny_Slice ?_;rw[evalPart_none];refine aO ?_;refine aO ?_;rw[evalPart_some];refine bX (ZK ae s1 σ H1 (λz H'=>z=.int k/\H1=H') I1 ⟨rfl,rfl⟩) ?_;rintro u s2 ⟨z,H2,I2,rz,rfl,rfl⟩;obtain⟨t,rfl⟩:=rz;have I3:Inv X ae σ H1 {s2 with heap:=s2.heap.push {cls:=.type "slice",data:=.fields #[.none,.none,.int k t]}}:=I2.kept (t':=s2.toks) λb ob q=>cI _ q;obtain⟨aA,rv,ht,hz⟩:=I3.tuple (gx.of (K:=X.K) hp)
  have aJ:(dI aA k).length=(dI ds k).length:=by
   have e1:aA.length=xs.length:=rv.length.symm;have e2:xs.length=ds.length:=rd.len.symm;have r1:=(ma rd (λ(j:Nat)=>((Builtin.Slice.sliceAdjust none none k (ds.length:Int)).1+(j:Int)*k).toNat) (List.range (Builtin.Slice.slicePlaces (Builtin.Slice.sliceAdjust none none k (ds.length:Int)).1 (Builtin.Slice.sliceAdjust none none k (ds.length:Int)).2 k))).len;have r2:=(iF rv (λ(j:Nat)=>((Builtin.Slice.sliceAdjust none none k (ds.length:Int)).1+(j:Int)*k).toNat) (List.range (Builtin.Slice.slicePlaces (Builtin.Slice.sliceAdjust none none k (ds.length:Int)).1 (Builtin.Slice.sliceAdjust none none k (ds.length:Int)).2 k))).length;unfold dI;rw[e1,e2,<- r2,<- r1]
  have ZL:aV X.K ai H1 (dI ds k) (dI xs k):=by
   unfold dI;rw[<- rd.len];exact ma rd _ _
  have So:aQ (dI xs k) (dI aA k):=by
   unfold dI;rw[<- rv.length];exact iF rv _ _
  have zU:({s2 with heap:=s2.heap.push {cls:=.type "slice",data:=.fields #[.none,.none,.int k t]}}:Shared).heap.IsSliceOf s2.heap.objs.size .none .none (.int k t):=Heap.IsSliceOf.new ..;show wpAny (model X.prog X.w) X.A (subscriptTail e (.Slice none none (some ke) p2) (.ref p) (.ref s2.heap.objs.size)) (EP X ae σ Q) X.xe {s2 with heap:=s2.heap.push {cls:=.type "slice",data:=.fields #[.none,.none,.int k t]}};refine tail_any (ops:=[.ref p,.ref s2.heap.objs.size]) ht.typeIs yM.lookup (rn ht zU (by rcases hk.1 with z | z<;>rw[z]<;>decide) (by rcases hk.1 with z | z<;>rw[z]<;>decide) (by rw[aJ];exact hk.2) ?_) (by with_unfolding_all rfl);refine⟨.ref _,_,I3.laid (t':=s2.toks) (o:=.tup (dI xs k)) (λb ob q=>cI _ q) (aE _) ?_,rfl,q1.tuple m1 ZL (I3.bw.fresh (aE _))⟩;exact⟨by rw[So.length,aJ];exact hk.2,_,So,IsTup.new _ _⟩
 ·exact q1.elim
theorem l5{e:Expr}(h:nE e=true)(n:Str)(env:Env)(wh:Sem Value):attributeBase e n env wh=wh:=by
 cases e<;>first | rfl | skip
 rename_i f args jZ pos
 cases f<;>first | rfl | skip
 cases args<;>first | rfl | skip
 cases jZ<;>first | rfl | exact absurd (show false=true from h) aY
theorem CQ{m:Me}{o:C}{cs:List C}{σ:L2.St}{H:Hp}{Q:VK}(q:tE X.K (ev G (.me m o cs)) σ H Q):WG X.K "list" (Ss X.K m) (tE X.K (ev G o)) (Eo X.K (bB G cs)) σ H Q:=by
 obtain⟨ads,M,ρ,s,q⟩:=q;have q:cC X.K ads H Q ((ev G o ρ M).bind λx M=>if (fi M x).isSome then (bB G cs ρ M).bind λds M=>v8 m x ds M else .af):=by simp only[Ct]at q;exact q
 refine dZ s q λw M1 v H1 ai s1 kE q1=>?_;split at q1
 ·rename_i hs
  obtain⟨es,he⟩:=vj.mp hs;obtain⟨a,xs,rfl,rd,ha⟩:=nz s1.mem kE he;refine⟨.inl ⟨rfl,xs,fN.of ha⟩,ai,M1,ρ,s1,?_⟩
  cases hq:bB G cs ρ M1 with
  | ok ds M2 =>
   rw[hq]at q1;intro vs H2 bU g2 m2 r2;exact⟨bU,M2,w,ds,m2,g2.rw kE,r2,cC.shift (o:=v8 m w ds M2) q1 g2 s1.mem m2⟩
  | err _ _=>rw[hq]at q1;exact q1
  | af=>rw[hq]at q1;exact q1
 ·exact q1.elim
theorem ya{m:Me}{o:C}{σ:L2.St}{H:Hp}{Q:VK}(q:tE X.K (ev G (.me m o [])) σ H Q):Pe X.K "list" (Ss X.K m) (tE X.K (ev G o)) σ H Q:=by
 obtain⟨ads,M,ρ,s,q⟩:=q;have q:cC X.K ads H Q ((ev G o ρ M).bind λx M=>if (fi M x).isSome then (bB G [] ρ M).bind λds M=>v8 m x ds M else .af):=by simp only[Ct]at q;exact q
 refine dZ s q λw M1 v H1 ai s1 kE q1=>?_;split at q1
 ·rename_i hs
  obtain⟨es,he⟩:=vj.mp hs;obtain⟨a,xs,rfl,rd,ha⟩:=nz s1.mem kE he;exact⟨.inl ⟨rfl,xs,fN.of ha⟩,ai,M1,w,[],s1.mem,kE,(by unfold aV;rfl),q1⟩
 ·exact q1.elim
theorem Ln{cs:List C}{es:List Expr}(h:cq cc cs es=true)(hl:es.length<20)(env:Env)(cS:Pos):((backTo cS (starEach es env)).all (λx=>!x.1)&&(backToKw cS (keywordEach [] env)).all (λx=>x.1.isSome)&&decide (es.length+([]:List Keyword).length+(if ([]:List Keyword).isEmpty then 0 else 1)<30))=true:=by
 have h1:=fk h env cS
 have h2:(backTo cS (starEach es env)).all (λx=>!x.1)=true:=by
  rw[sQ];intro x hx;rw[EU]at h1;have:=h1 x hx;simpa using this
 rw[h2];simp[keywordEach,backToKw];omega
theorem Vj{m:Me}{o:C}{cs:List C}{e:Expr}{es:List Expr}{n:Str}{ap cp:Pos}(hn:n=CJ m)(hm:P2 m=true)(hl:(ap.endLine==cp.line)=true)(h0:nE e=true)(hc:cq cc cs es=true)(aJ:es.length<20)(ho:PE X e (tE X.K (ev G o)))(ha:PA X es (Eo X.K (bB G cs))):PE X (.Call (.Attribute e n ap) es [] cp) (tE X.K (ev G (.me m o cs))):=by
 have hb:=l5 h0 n X.env (eval e X.env);subst hn
 cases es with
 | nil =>
  cases cs with
  | cons _ _=>cases hc
  | nil =>
   cases m with
   | append=>exact gp (BU EV F.slot_list_append F.type_list_append pN ho hb hl) λσ H Q q=>ya q
   | insert=>exact gp (BU EV F.slot_list_insert F.type_list_insert pO ho hb hl) λσ H Q q=>ya q
   | reverse=>cases hm
   | extend=>cases hm
   | remove=>cases hm
   | pop=>cases hm
   | clear=>cases hm
 | cons e1 es =>
  have fO:aX e1=true/\cq cc cs.tail es=true:=by
   cases cs with
   | nil=>cases hc
   | cons c cs =>
    have h':(aX e1&&cg cc c e1&&cq cc cs es)=true:=hc;simp only[aR]at h';exact⟨h'.1.1,h'.2⟩
  have FI:=Ln hc aJ X.env cp
  cases m with
  | append=>exact gp (Ic EV F.slot_list_append F.type_list_append pN ho ha hb FI hl (cP fO.1 es X.env) (fk fO.2 X.env cp)) λσ H Q q=>CQ q
  | insert=>exact gp (Ic EV F.slot_list_insert F.type_list_insert pO ho ha hb FI hl (cP fO.1 es X.env) (fk fO.2 X.env cp)) λσ H Q q=>CQ q
  | reverse=>cases hm
  | extend=>cases hm
  | remove=>cases hm
  | pop=>cases hm
  | clear=>cases hm
theorem Qk{x:Str}{v:Int}{pos:Pos}(g:Good kk X cc G)(hg:glob cc x=true)(hp:cL x=true)(hl:cc.gs.lookup x=some v):PE X (.Name x pos) (tE X.K (ev G (.Gd x v))):=by
 obtain⟨t,ht⟩:=g.W6 x v hl;refine gp (qw (v:=.int v) (g.gl hg) ht ⟨t,rfl⟩ (iE hp).1) λσ H Q q=>?_;obtain⟨ads,M,ρ,s,q⟩:=q;exact cC.plain q s.mem (cU _)
end
end
section
variable [EX]
section
variable {kk:Nat} {X:Cx} {cc:CC} {G:a_}
structure TF (H H':Hp):Prop where
 tup:PN H H'
 gW:∀b o u,H b=some (.gW o u)->H' b=some (.gW o u)
theorem TF.kF{K:Frag}{H H':Hp}(t:TF H H'){a:Addr}{xs:List V}(h:tX K H a xs):tX K H' a xs:=by
 rcases h with⟨o,h⟩ | h
 ·exact .inl ⟨o,t.gW _ _ _ h⟩
 ·exact .inr h
mutual
theorem RD.keep{K:Frag}{ads:List Addr}{H H':Hp}(t:TF H H'):∀(d:D)(v:V),RD K ads H d v->RD K ads H' d v
 | .aL,_,h=>by unfold RD at *;exact h
 | .bl _,_,h=>by unfold RD at *;exact h
 | .int _,_,h=>by unfold RD at *;exact h
 | .str _,_,h=>by unfold RD at *;exact h
 | .aw n,v,h=>by unfold RD at *;exact h
 | .tup ds,v,h=>by unfold RD at *;obtain⟨a,xs,e,h,r⟩:=h;exact⟨a,xs,e,t.tup _ _ h,aV.keep t ds xs r⟩
 | .ls ds,v,h=>by unfold RD at *;obtain⟨a,xs,e,h,r⟩:=h;exact⟨a,xs,e,t.kF h,aV.keep t ds xs r⟩
theorem aV.keep{K:Frag}{ads:List Addr}{H H':Hp}(t:TF H H'):∀(ds:List D)(vs:List V),aV K ads H ds vs->aV K ads H' ds vs
 | [],_,h=>by unfold aV at *;exact h
 | d::ds,vs,h=>by unfold aV at *;obtain⟨x,r,e,h1,h2⟩:=h;exact⟨x,r,e,RD.keep t d x h1,aV.keep t ds r h2⟩
end
theorem bW.keep{κ:Type}{K:Frag}{ads:List Addr}{H H':Hp}(t:TF H H'):∀(ds:List (κ×D))(vs:List (κ×V)),bW K ads H ds vs->bW K ads H' ds vs
 | [],_,h=>by unfold bW at *;exact h
 | d::ds,vs,h=>by unfold bW at *;obtain⟨x,r,e,h0,h1,h2⟩:=h;exact⟨x,r,e,h0,RD.keep t d.2 x.2 h1,bW.keep t ds r h2⟩
theorem aU.keep{K:Frag}{ads:List Addr}{H H':Hp}{M:ag}(m:aU K ads H M)(t:TF H H')(k:∀a∈ads,H' a=H a):aU K ads H' M:=⟨m.nd,m.len,λn o a e1 e2=>by
 have h:=m.obj n o a e1 e2;have ha:=k a (fw e2)
 cases o with
 | lst ds=>obtain⟨xs,h,r⟩:=h;exact⟨xs,ha.trans h,aV.keep t _ _ r⟩
 | kF ds=>obtain⟨o,xs,h,r⟩:=h;exact⟨o,xs,ha.trans h,aV.keep t _ _ r⟩
 | dK ds=>obtain⟨xs,h,r⟩:=h;exact⟨xs,ha.trans h,bW.keep t _ _ r⟩
 | dT ds=>obtain⟨xs,h,r⟩:=h;exact⟨xs,ha.trans h,bW.keep t _ _ r⟩
 | dF ds=>obtain⟨o,xs,h,r⟩:=h;exact⟨o,xs,ha.trans h,bW.keep t _ _ r⟩⟩
theorem j4:∀(au acc:List (bD×V)),(acc.map (·.1)++au.map (·.1)).Nodup->fP acc au=acc++au
 | [],acc,_=>by simp[fP]
 | p::ps,acc,h=>by
  have hn:¬p.1∈acc.map (·.1):=by
   intro hm;rw[List.nodup_append]at h;exact h.2.2 _ hm _ (by simp) rfl
  have ha:(acc.any λkv=>decide (kv.1=p.1))=false:=by
   rw[EU];intro x hx;simp only[qj];exact λe=>hn (e▸List.mem_map_of_mem hx)
  have e:fP acc (p::ps)=fP (acc++[p]) ps:=by
   show fP (eL acc p.1 p.2) ps=_;unfold eL;rw[ha];simp
  rw[e,j4 ps (acc++[p]) (by simpa using h)];simp
def lg(K:Frag)(G:a_):List Str->List C->List (TE×TE)
 | k::ks,c::cs=>(tC (.str k),tE K (ev G c))::lg K G ks cs
 | _,_=>[]
theorem nI{K:Frag}(ks:List Str)(cs:List C):∀t∈lg K G ks cs,(∀σ H A B,(∀v H,A v H->B v H)->t.1 σ H A->t.1 σ H B)/\(∀σ H A B,(∀v H,A v H->B v H)->t.2 σ H A->t.2 σ H B):=by
 intro t ht
 have:∀(ks:List Str)(cs:List C),t∈lg K G ks cs->∃k c,t=(tC (.str k),tE K (ev G c)):=by
  intro ks
  induction ks with
  | nil=>intro cs h;cases cs<;>cases h
  | cons k ks ih =>
   intro cs h
   cases cs with
   | nil=>cases h
   | cons c cs =>
    rcases bT.mp h with z | z
    ·exact⟨k,c,z⟩
    ·exact ih cs z
 obtain⟨k,c,rfl⟩:=this ks cs ht;refine⟨λσ H A B f h=>f _ _ h,λσ H A B f h=>?_⟩;obtain⟨ads,M,ρ,s,q⟩:=h;refine⟨ads,M,ρ,s,?_⟩
 cases hq:ev G c ρ M with
 | ok w M1=>rw[hq]at q;exact λv H' ar g m r=>f _ _ (q v H' ar g m r)
 | err _ _=>rw[hq]at q;exact q
 | af=>rw[hq]at q;exact q
theorem ud{K:Frag}{ρ:En}{σ:L2.St}:∀(ks:List Str)(cs:List C){ads:List Addr}{H:Hp}{M:ag}{R:List V->Hp->Prop},ks.length=cs.length->SR K ads M ρ σ H->nu K ads H R (bB G cs ρ M)->gB (lg K G ks cs) σ H λps H2=>∃vs,ps=(ks.map V.str).zip vs/\vs.length=ks.length/\R vs H2
 | [],[],ads,H,M,R,_,s,h=>⟨[],rfl,rfl,h [] H ads (ay.refl _ _) s.mem (by unfold aV;rfl)⟩
 | [],_::_,_,_,_,_,e,_,_=>by cases e
 | _::_,[],_,_,_,_,e,_,_=>by cases e
 | k::ks,c::cs,ads,H,M,R,e,s,h=>by
  show tE K (ev G c) σ H λy H2=>gB (lg K G ks cs) σ H2 λps H3=>_;refine⟨ads,M,ρ,s,?_⟩;simp only[gk,e6]at h
  cases hq:ev G c ρ M with
  | ok w M1 =>
   rw[hq]at h;intro v H1 ai g1 m1 r1
   cases ho:own w M1 with
   | ok d M2 =>
    have h:nu K ads H R ((own w M1).bind λd M=>(bB G cs ρ M).bind λds M=>.ok (d::ds) M):=h;rw[ho]at h;obtain⟨bU,g2,m2,rd⟩:=nH s.mem g1 m1 r1 ho;have h:nu K ads H R ((bB G cs ρ M2).bind λds M=>.ok (d::ds) M):=h
    have h2:nu K bU H1 (λvs H'=>R (v::vs) H') (bB G cs ρ M2):=by
     cases CN:bB G cs ρ M2 with
     | ok ds M3 =>
      rw[CN]at h;intro vs H3 d5 g3 m3 r3;refine h (v::vs) H3 d5 (g2.trans g3) m3 ?_;unfold aV;exact⟨v,vs,rfl,g3.rd _ _ rd,r3⟩
     | err _ _=>rw[CN]at h;exact EX.shift (show EX.post K ads H _ _ from h) g2
     | af=>rw[CN]at h;exact h
    have ih:=ud ks cs (by simpa using e) (s.grow g2 m2) h2
    have mono:∀(mW:List (TE×TE))(H:Hp)(P Q:List (V×V)->Hp->Prop),(∀ps H,P ps H->Q ps H)->(∀t∈mW,(∀σ H A B,(∀v H,A v H->B v H)->t.1 σ H A->t.1 σ H B)/\(∀σ H A B,(∀v H,A v H->B v H)->t.2 σ H A->t.2 σ H B))->gB mW σ H P->gB mW σ H Q:=by
     intro mW
     induction mW with
     | nil=>intro H P Q f _ h;exact f _ _ h
     | cons t mW ih =>
      intro H P Q f hm h;obtain⟨m1,m2⟩:=hm t ez;refine m1 σ H _ _ (λx H1 h1=>m2 σ H1 _ _ (λy H2 h2=>ih H2 _ _ (λps H3 h3=>f _ _ h3) (λt ht=>hm t (dP _ ht)) h2) h1) h
    refine mono _ _ _ _ ?_ ?_ ih
    ·rintro ps H3 ⟨vs,rfl,hl,hR⟩;exact⟨v::vs,rfl,by simp[hl],hR⟩
    ·intro t ht;exact nI ks cs t ht
   | err _ _=>cases w<;>cases ho
   | af=>cases w<;>cases ho
  | err _ _=>rw[hq]at h;exact h
  | af=>rw[hq]at h;exact h
theorem CS{ks:List Str}{cs:List C}:∀{keys:List (Option Expr)}{vs:List Expr}{pos:Pos},jX ks keys=true->ks.length=cs.length->cq cc cs vs=true->(∀c∈cs,∀e,cg cc c e=true->PE X e (tE X.K (ev G c)))->ND X pos keys vs (lg X.K G ks cs):=by
 induction ks generalizing cs with
 | nil =>
  intro keys vs pos h1 h2 h3 ih
  cases keys with
  | cons _ _=>cases h1
  | nil =>
   cases cs with
   | cons _ _=>cases h2
   | nil =>
    cases vs with
    | cons _ _=>cases h3
    | nil=>exact Fw
 | cons k ks ZM =>
  intro keys vs pos h1 h2 h3 ih
  cases cs with
  | nil=>cases h2
  | cons c cs =>
   cases vs with
   | nil=>cases h3
   | cons e es =>
    have h':(aX e&&cg cc c e&&cq cc cs es)=true:=h3;simp only[aR]at h'
    cases keys with
    | nil=>cases h1
    | cons ky keys =>
     cases ky with
     | none=>cases h1
     | some ke =>
      obtain⟨h1,hk⟩:=(aR _ _).mp h1;refine cf (P:=λke=>ND X pos (some ke::keys) (e::es) _) h1 λcn j p h1=>?_;cases cn<;>first | exact absurd (show false=true from h1) aY | skip
      rename_i st
      obtain rfl:k=st:=eq_of_beq h1;exact BK qv (ih c ez e h'.1.2) (ZM hk (by simpa using h2) h'.2 λc hc=>ih c (dP _ hc))
theorem j5:∀{ks:List Str}{keys:List (Option Expr)},jX ks keys=true->keys.all (·.isSome)=true/\keys.length=ks.length
 | [],[],_=>⟨rfl,rfl⟩
 | [],_::_,h=>by cases h
 | _::_,[],h=>by cases h
 | k::ks,ky::keys,h=>by
  cases ky with
  | none=>cases h
  | some ke =>
   obtain⟨a,b⟩:=j5 ((aR _ _).mp h).2;exact⟨by simp[a],by simp[b]⟩
theorem ue:∀{cs:List C}{es:List Expr},cq cc cs es=true->cs.length=es.length
 | [],[],_=>rfl
 | [],_::_,h=>by cases h
 | _::_,[],h=>by cases h
 | c::cs,e::es,h=>by
  have h':(aX e&&cg cc c e&&cq cc cs es)=true:=h;simp only[aR]at h';simp[ue h'.2]
theorem yb{α β:Type}:∀(l:List α)(r:List β),l.length=r.length->(l.zip r).map (·.1)=l
 | [],_,_=>by simp
 | a::l,[],h=>by simp at h
 | a::l,b::r,h=>by simp[yb l r (by simpa using h)]
theorem yc{K:Frag}{ads:List Addr}{H:Hp}:∀(ks:List bD){ds:List D}{vs:List V},aV K ads H ds vs->ks.length=ds.length->bW K ads H (ks.zip ds) (ks.zip vs)
 | [],ds,vs,r,h=>by simp;unfold bW;rfl
 | k::ks,[],vs,r,h=>by simp at h
 | k::ks,d::ds,vs,r,h=>by
  unfold aV at r;obtain⟨x,r',rfl,h1,h2⟩:=r;show bW K ads H ((k,d)::ks.zip ds) ((k,x)::ks.zip r');unfold bW;exact⟨_,_,rfl,rfl,h1,yc ks h2 (by simpa using h)⟩
theorem Lo{pos:Pos}:PE X (.Dict [] [] pos) (tE X.K (ev G (.zF [] []))):=by
 refine gp BJ λσ H Q q=>?_;obtain⟨ads,M,ρ,s,q⟩:=q;intro p hp
 have q:cC X.K ads H Q (.ok (.d (.aw M.length)) (M++[.dK []])):=by
  simp only[v9,gk,e6]at q;exact q
 exact q.K2 s.mem hp (show bW X.K ads H [] [] by unfold bW;rfl)
theorem Ql{ks:List Str}{cs:List C}{keys:List (Option Expr)}{vs:List Expr}{pos:Pos}(h1:jX ks keys=true)(hn:ks.Nodup)(h0:keys≠[])(Ib:keys.length<=15)(hc:cq cc cs vs=true)(hl:ks.length=cs.length)(ih:∀c∈cs,∀e,cg cc c e=true->PE X e (tE X.K (ev G c))):PE X (.Dict keys vs pos) (tE X.K (ev G (.zF ks cs))):=by
 obtain⟨k1,k2⟩:=j5 h1;refine gp (Fx (CS h1 hl hc ih) k1 (by rw[k2,hl,ue hc]) h0 Ib) λσ H Q q=>?_;obtain⟨ads,M,ρ,s,q⟩:=q;intro p hp;have Iy:=s.mem.fresh hp;have g0:ay ads ads H (bu H p (.dK [])):=ay.dR s.mem hp;have s0:SR X.K ads M ρ σ (bu H p (.dK [])):=s.grow g0 (s.mem.dR hp);simp only[v9]at q
 have main:nu X.K ads (bu H p (.dK [])) (λvs H2=>H2 p=some (.dK [])/\(vs.length=ks.length->Q (.ref p) (bu H2 p (.dK ((ks.map Sum.inr).zip vs))))) (bB G cs ρ M):=by
  cases hq:bB G cs ρ M with
  | ok ds M1 =>
   rw[hq]at q;have q:cC X.K ads H Q (if ks.length=ds.length then .ok (.d (.aw M1.length)) (M1++[.dK ((ks.map Sum.inr).zip ds)]) else .af):=q;split at q
   ·rename_i NO
    intro vs H2 bU g2 m2 r2;have e2:H2 p=some (.dK []):=g2.kept p _ Iy aS;refine⟨e2,λSy=>?_⟩;have W8:p∉bU:=g2.cT Iy aS;have tk:TF H2 (bu H2 p (.dK ((ks.map Sum.inr).zip vs))):=⟨λb xs h=>by rw[aq (λz=>by subst z;rw[e2]at h;cases h)];exact h,λb o u h=>by rw[aq (λz=>by subst z;rw[e2]at h;cases h)];exact h⟩;have m3:aU X.K bU (bu H2 p (.dK ((ks.map Sum.inr).zip vs))) M1:=m2.keep tk λa ha=>aq (λz=>by subst z;exact W8 ha);have r3:=aV.keep (K:=X.K) (ads:=bU) tk _ _ r2;have m4:=m3.push (o:=.dK ((ks.map Sum.inr).zip ds)) W8 ⟨_,aS,yc (ks.map Sum.inr) r3 (by simpa using NO)⟩;obtain⟨t,et⟩:=g2.pre;refine q (.ref p) _ (bU++[p]) ⟨⟨t++[p],by rw[et,yU]⟩,λb hb nb=>?_,λb x nb h=>?_,λb xs h=>?_,λb o u h=>?_⟩ m4 ?_
    ·rcases eV.mp hb with z | z
     ·have:=g2.new b z nb;by_cases CT:b=p
      ·subst CT;exact hp
      ·rw[aq CT]at this;exact this
     ·have:b=p:=by simpa using z
      subst this;exact hp
    ·have CT:b≠p:=λz=>by subst z;rw[hp]at h;cases h
     rw[aq CT];exact g2.kept b x nb (by rw[aq CT];exact h)
    ·have CT:b≠p:=λz=>by subst z;rw[hp]at h;cases h
     rw[aq CT];exact g2.eW b xs (by rw[aq CT];exact h)
    ·have CT:b≠p:=λz=>by subst z;rw[hp]at h;cases h
     rw[aq CT];exact g2.gW b o u (by rw[aq CT];exact h)
    ·show RD X.K (bU++[p]) (bu H2 p (.dK ((ks.map Sum.inr).zip vs))) (.aw M1.length) (.ref p);unfold RD;exact⟨p,rfl,by rw[sH (by rw[m2.len];exact aE _)];simp[m2.len]⟩
   ·exact q.elim
  | err _ _=>rw[hq]at q;exact EX.shift (show EX.post X.K ads H _ _ from q) (ay.dR s.mem hp)
  | af=>rw[hq]at q;exact q
 have h:=ud ks cs hl s0 main
 have mono:∀(mW:List (TE×TE))(H:Hp)(P Q:List (V×V)->Hp->Prop),(∀ps H,P ps H->Q ps H)->(∀t∈mW,(∀σ H A B,(∀v H,A v H->B v H)->t.1 σ H A->t.1 σ H B)/\(∀σ H A B,(∀v H,A v H->B v H)->t.2 σ H A->t.2 σ H B))->gB mW σ H P->gB mW σ H Q:=by
  intro mW
  induction mW with
  | nil=>intro H P Q f _ h;exact f _ _ h
  | cons t mW ih =>
   intro H P Q f hm h;obtain⟨m1,m2⟩:=hm t ez;refine m1 σ H _ _ (λx H1 h1=>m2 σ H1 _ _ (λy H2 h2=>ih H2 _ _ (λps H3 h3=>f _ _ h3) (λt ht=>hm t (dP _ ht)) h2) h1) h
 refine mono _ _ _ _ ?_ (nI ks cs) h;rintro ps H2 ⟨vs,rfl,Sy,e2,hQ⟩;refine⟨e2,(ks.map Sum.inr).zip vs,?_,?_,?_⟩
 ·rw[List.zip_map_left,List.zip_map_left,y4];rfl
 ·rw[List.length_zip,aB,Sy];omega
 ·have ZN:((([]:List (bD×V)).map (·.1))++((ks.map (Sum.inr (α:=Int))).zip vs).map (·.1)).Nodup:=by
   rw[yb _ _ (by rw[aB];exact Sy.symm)];simp only[lR,List.nil_append];exact List.Pairwise.map _ (λa b NP z=>NP (Sum.inr.inj z)) hn
  rw[j4 _ _ ZN];exact hQ Sy
end
end
section
variable [EX]
def Es(K:Frag)(ads:List Addr)(H:Hp)(it:Ev.It)(J:L2.It):Prop :=
 ∀(i:Nat)(ai:List Addr)(H1:Hp)(M1:ag),ay ads ai H H1->aU K ai H1 M1 ->
  (itemAt M1 i it=some none->J.stop i H1) /\
  (∀d,itemAt M1 i it=some (some d)->J.go i H1/\∀x H2,J.NB i H1 x H2->ay ai ai H1 H2/\aU K ai H2 M1/\RD K ai H2 d x)
theorem Es.grow{K:Frag}{ads ar:List Addr}{H H':Hp}{it:Ev.It}{J:L2.It}(r:Es K ads H it J)(g:ay ads ar H H'):Es K ar H' it J :=
 λi ai H1 M1 g1 m1=>r i ai H1 M1 (g.trans g1) m1
def lh(K:Frag)(ads:List Addr)(H:Hp)(R:L2.It->Hp->Prop):bS Ev.It->Prop
 | .ok it M=>∀J H' ar,ay ads ar H H'->aU K ar H' M->Es K ar H' it J->R J H'
 | .err x M=>EX.post K ads H x M
 | .af=>False
def tI(K:Frag)(o:En->ag->bS Ev.It):TI:=λσ H R=>∃ads M ρ,SR K ads M ρ σ H/\lh K ads H R (o ρ M)
def dM(G:a_)(k:SK)(dC:List C)(ρ:En)(M:ag):bS Ev.It:=(dk G dC ρ M).bind λws M=>jT k ws M
section
variable {K:Frag} {ads:List Addr} {H:Hp} {M:ag}
theorem GH(lo:Int)(n:Nat):Es K ads H (.lB lo n) (R1 lo n):=by
 intro i ai H1 M1 g1 m1;refine⟨λe=>?_,λd e=>?_⟩
 ·by_cases h:i<n
  ·simp[itemAt,h]at e
  ·exact sS.mp h
 ·by_cases h:i<n
  ·simp only[itemAt,aF h,sO]at e;subst e;refine⟨h,λx H2 y=>?_⟩;obtain⟨rfl,rfl⟩:=y;exact⟨ay.refl _ _,m1,cU _⟩
  ·simp[itemAt,h]at e
theorem nJ{it:Ev.It}{a:Addr}(h:∀(i:Nat)(ai:List Addr)(H1:Hp)(M1:ag),ay ads ai H H1->aU K ai H1 M1->∀o,itemAt M1 i it=some o->∃ds xs,o=ds[i]?/\aV K ai H1 ds xs/\fN K H1 a xs):Es K ads H it (T6 K a):=by
 intro i ai H1 M1 g1 m1;refine⟨λe=>?_,λd e=>?_⟩
 ·obtain⟨ds,xs,e2,rd,sq⟩:=h i ai H1 M1 g1 m1 _ e;refine⟨xs,sq,?_⟩;rw[<- rd.len];exact vh.mp e2.symm
 ·obtain⟨ds,xs,e2,rd,sq⟩:=h i ai H1 M1 g1 m1 _ e;obtain⟨v,ev,rv⟩:=rd.get e2.symm;refine⟨⟨xs,v,sq,ev⟩,λx H2 y=>?_⟩;obtain⟨rfl,y⟩:=y;have:=y xs sq;rw[ev]at this;cases this;exact⟨ay.refl _ _,m1,rv⟩
theorem GI{ds:List D}{xs:List V}{a:Addr}(ha:H a=some (.tup xs))(rd:aV K ads H ds xs):Es K ads H (.items ds) (T7 K a):=by
 intro i ai H1 M1 g1 m1;have sq:gx K H1 a xs:=gx.of (g1.eW _ _ ha);have ZO:=g1.oV _ _ rd;refine⟨λe=>?_,λd e=>?_⟩
 ·refine⟨xs,sq,?_⟩;rw[<- rd.len];exact vh.mp (cR e)
 ·obtain⟨v,ev,rv⟩:=ZO.get (cR e);refine⟨⟨xs,v,sq,ev⟩,λx H2 y=>?_⟩;obtain⟨rfl,y⟩:=y;have:=y xs sq;rw[ev]at this;cases this;exact⟨ay.refl _ _,m1,rv⟩
end
theorem yd{K:Frag}{ads:List Addr}{H:Hp}{M:ag}{n:Nat}{v:V}{p:Bool×List D}(m:aU K ads H M)(r:RD K ads H (.aw n) v)(hp:bF M (.d (.aw n))=some p):∃a,v=.ref a/\∃xs,fN K H a xs:=by
 obtain⟨l,ds⟩:=p;obtain⟨a,xs,e,rd,sq⟩:=fj (w:=.d (.aw n)) m r hp;rcases sq with⟨_,sq⟩|⟨hl,_⟩
 ·exact⟨a,e,xs,sq⟩
 ·simp only[bF]at hp;split at hp
  ·cases hp;cases hl
  ·cases hp;cases hl
  ·cases hp
theorem uf{K:Frag}{ads bU:List Addr}{H H2:Hp}{M2:ag}{n i:Nat}{a:Addr}{o:Option D}(r:RD K ads H (.aw n) (.ref a))(g2:ay ads bU H H2)(m2:aU K bU H2 M2)(e:itemAt M2 i (.at n)=some o):∃ds xs,o=ds[i]?/\aV K bU H2 ds xs/\fN K H2 a xs:=by
 unfold RD at r;obtain⟨b,eb,ea⟩:=r;cases eb;have W9:=g2.get ea;simp only[itemAt]at e;split at e
 ·rename_i ds q
  obtain⟨xs,h,rd⟩:=m2.obj n _ a q W9;exact⟨ds,xs,(cR e).symm,rd,fN.of h⟩
 ·rename_i ds q
  obtain⟨o,xs,h,rd⟩:=m2.obj n _ a q W9;exact⟨ds,xs,(cR e).symm,rd,.inl (.inr ⟨o,h⟩)⟩
 ·cases e
section
variable {kk:Nat} {X:Cx} {cc:CC} {G:a_} {tg:Expr} {K:Frag} {ads:List Addr} {H:Hp}
theorem W_{aK:Expr}{t u:TI}(h:PI X tg aK t)(f:∀σ H R,u σ H R->t σ H R):PI X tg aK u:=λae s σ H R I q=>h ae s σ H R I (f σ H R q)
theorem GJ{c:C}{aK:Expr}(he:PE X aK (tE X.K (ev G c))):PI X tg aK (tI X.K (dM G .seq [c])):=by
 intro ae s σ H R I q;obtain⟨ads,M,ρ,sr,q⟩:=q;simp only[dM,dk]at q
 cases hq:ev G c ρ M with
 | ok w M1 =>
  rw[hq]at q;have q:lh X.K ads H R (jT .seq [w] M1):=q
  cases w with
  | lv ds =>
   have q:lh X.K ads H R (.ok (.items ds) M1):=q;refine qz he ae s σ H R I ⟨ads,M,ρ,sr,?_⟩;rw[hq];intro v H1 ai g1 m1 r1;obtain⟨a,xs,rfl,h0,h1,n,rd⟩:=r1;refine⟨a,rfl,⟨xs,fN.of h1⟩,q _ H1 ai g1 m1 (nJ λi bU H2 M2 g2 m2 o e=>?_)⟩;exact⟨ds,xs,(cR e).symm,g2.oV _ _ rd,fN.of (g2.kept a _ n h1)⟩
  | d x =>
   cases x with
   | tup ds =>
    have q:lh X.K ads H R (.ok (.items ds) M1):=q;refine Bu he ae s σ H R I ⟨ads,M,ρ,sr,?_⟩;rw[hq];intro v H1 ai g1 m1 r1;have r1:RD X.K ai H1 (.tup ds) v:=r1;unfold RD at r1;obtain⟨a,xs,rfl,h1,rd⟩:=r1;exact⟨a,rfl,⟨xs,gx.of h1⟩,q _ H1 ai g1 m1 (GI h1 rd)⟩
   | ls ds =>
    have q:lh X.K ads H R (.ok (.items ds) M1):=q;refine qz he ae s σ H R I ⟨ads,M,ρ,sr,?_⟩;rw[hq];intro v H1 ai g1 m1 r1;have r1:RD X.K ai H1 (.ls ds) v:=r1;unfold RD at r1;obtain⟨a,xs,rfl,h1,rd⟩:=r1;refine⟨a,rfl,⟨xs,h1.sq⟩,q _ H1 ai g1 m1 (nJ λi bU H2 M2 g2 m2 o e=>?_)⟩;exact⟨ds,xs,(cR e).symm,g2.oV _ _ rd,(g2.kF h1).sq⟩
   | aw n =>
    have q:lh X.K ads H R (if (bF M1 (.d (.aw n))).isSome then .ok (.at n) M1 else .af):=q;split at q
    ·rename_i hs
     obtain⟨p,hp⟩:=vj.mp hs;refine qz he ae s σ H R I ⟨ads,M,ρ,sr,?_⟩;rw[hq];intro v H1 ai g1 m1 r1;obtain⟨a,ea,sq⟩:=yd m1 r1 hp;subst ea;exact⟨a,rfl,sq,q _ H1 ai g1 m1 (nJ λi bU H2 M2 g2 m2 o e=>uf r1 g2 m2 e)⟩
    ·exact q.elim
   | aL=>exact q.elim
   | bl _=>exact q.elim
   | int _=>exact q.elim
   | str _=>exact q.elim
 | err _ _=>rw[hq]at q;exact Bu he ae s σ H R I ⟨ads,M,ρ,sr,by rw[hq];exact q⟩
 | af=>rw[hq]at q;exact q.elim
theorem CU{c:C}{a:Expr}{x:Str}{p pos:Pos}(g:Good kk X cc G) (hx:x = "range") (hg:glob cc x=true) (hs:aX a=true) (he:PE X a (tE X.K (ev G c))):PI X tg (.Call (.Name x p) [a] [] pos) (tI X.K (dM G .fT [c])):=by
 have x_:=g.gl hg;have hm:X.mg x=none:=g.blt x (by subst hx;show _∈dm;decide +kernel);subst hx;refine W_ (zj x_ hm (cF he ff (cP hs [] X.env)) (cP hs [] X.env)) λσ H R q=>?_;obtain⟨ads,M,ρ,s,q⟩:=q;simp only[dM,dk]at q;refine⟨ads,M,ρ,s,?_⟩
 cases hq:ev G c ρ M with
 | ok w M1 =>
  rw[hq]at q;have q:lh X.K ads H R (jT .fT [w] M1):=q;intro v H1 ai g1 m1 r1;rcases w with⟨_|_ | j | _|_|_⟩|_<;>first | exact q.elim | skip
  have q:lh X.K ads H R (if -(2 ^ 62)<=j/\j<2 ^ 62 then .ok (.lB 0 j.toNat) M1 else .af):=q;split at q
  ·rename_i hj
   exact⟨j,by rw[aW r1],hj.1,hj.2,q _ H1 ai g1 m1 (GH _ _)⟩
  ·exact q.elim
 | err _ _=>rw[hq]at q;exact q
 | af=>rw[hq]at q;exact q.elim
theorem bW.at{κ:Type}{K:Frag}{ads:List Addr}{H:Hp}:∀{au:List (κ×D)}{ks:List (κ×V)}(i:Nat),bW K ads H au ks->(au[i]?).map (·.1)=(ks[i]?).map (·.1)
 | [],_,_,r=>by unfold bW at r;subst r;rfl
 | p::au,_,i,r=>by
  unfold bW at r;obtain⟨x,r',rfl,h0,_,h2⟩:=r
  cases i with
  | zero=>simp[h0]
  | succ i=>simpa using bW.at i h2
theorem j6{it:Ev.It}{l:Bool}{a:Addr}(h:∀(i:Nat)(ai:List Addr)(H1:Hp)(M1:ag),ay ads ai H H1->aU K ai H1 M1->∀o,itemAt M1 i it=some o->∃ds xs,o=(ds[i]?.map λd=>D.tup [.int i,d])/\aV K ai H1 ds xs/\NH K H1 l a xs):Es K ads H it (Si K l a):=by
 intro i ai H1 M1 g1 m1;refine⟨λe=>?_,λd e=>?_⟩
 ·obtain⟨ds,xs,e2,rd,sq⟩:=h i ai H1 M1 g1 m1 _ e;refine⟨xs,sq,?_⟩;rw[<- rd.len]
  cases q:ds[i]? with
  | none=>exact vh.mp q
  | some d=>rw[q]at e2;cases e2
 ·obtain⟨ds,xs,e2,rd,sq⟩:=h i ai H1 M1 g1 m1 _ e
  cases q:ds[i]? with
  | none=>rw[q]at e2;cases e2
  | some d' =>
   rw[q]at e2;cases e2;obtain⟨v,ev,rv⟩:=rd.get q;refine⟨⟨xs,v,sq,ev⟩,λx H2 y=>?_⟩;obtain⟨p,y,rfl,hp,rfl,vM⟩:=y;have:=vM xs sq;rw[ev]at this;cases this;refine⟨ay.dR m1 hp,m1.dR hp,?_⟩;have g2:=ay.dR (o:=.tup [.int i,v]) m1 hp;unfold RD;refine⟨p,_,rfl,aS,?_⟩;unfold aV;exact⟨.int i,[v],rfl,cU _,.one (g2.rd _ _ rv)⟩
theorem CV{c:C}{a t:Expr}{x:Str}{p pos:Pos}(g:Good kk X cc G) (hx:x = "enumerate") (ht:iC t=true) (hg:glob cc x=true) (hs:aX a=true) (he:PE X a (tE X.K (ev G c))):PI X t (.Call (.Name x p) [a] [] pos) (tI X.K (dM G .enum [c])):=by
 have x_:=g.gl hg;have hm:X.mg x=none:=g.blt x (by subst hx;show _∈dm;decide +kernel);subst hx;cases t<;>first | cases ht | skip
 refine W_ (FZ x_ hm (cF he ff (cP hs [] X.env)) (cP hs [] X.env)) λσ H R q=>?_;obtain⟨ads,M,ρ,s,q⟩:=q;simp only[dM,dk]at q;refine⟨ads,M,ρ,s,?_⟩
 cases hq:ev G c ρ M with
 | ok w M1 =>
  rw[hq]at q;have q:lh X.K ads H R (jT .enum [w] M1):=q;intro v H1 ai g1 m1 r1;rcases w with⟨_|_|_|_ | ds | n | ds⟩ | ds<;>first | exact q.elim | skip
  ·have q:lh X.K ads H R (.ok (.gE ds) M1):=q;have r1:RD X.K ai H1 (.tup ds) v:=r1;unfold RD at r1;obtain⟨b,xs,rfl,h1,rd⟩:=r1;refine⟨false,b,rfl,⟨xs,gx.of h1⟩,q _ H1 ai g1 m1 (j6 λi bU H2 M2 g2 m2 o e=>⟨ds,xs,(cR e).symm,g2.oV _ _ rd,gx.of (g2.eW _ _ h1)⟩)⟩
  ·have q:lh X.K ads H R (if (bF M1 (.d (.aw n))).isSome then .ok (.jh n) M1 else .af):=q;split at q
   ·rename_i hs
    obtain⟨p,hp⟩:=vj.mp hs;obtain⟨b,ea,sq⟩:=yd m1 r1 hp;subst ea;refine⟨true,b,rfl,sq,q _ H1 ai g1 m1 (j6 λi bU H2 M2 g2 m2 o e=>?_)⟩
    have e':∃o',itemAt M2 i (.at n)=some o'/\o=o'.map λd=>D.tup [.int i,d]:=by
     simp only[itemAt]at e⊢;split at e
     ·exact⟨_,rfl,(cR e).symm⟩
     ·exact⟨_,rfl,(cR e).symm⟩
     ·cases e
    obtain⟨o',e1,e2⟩:=e';obtain⟨ds,xs,e3,rd,ZP⟩:=uf r1 g2 m2 e1;exact⟨ds,xs,by rw[e2,e3],rd,ZP⟩
   ·exact q.elim
  ·have q:lh X.K ads H R (.ok (.gE ds) M1):=q;have r1:RD X.K ai H1 (.ls ds) v:=r1;unfold RD at r1;obtain⟨b,xs,rfl,h1,rd⟩:=r1;exact⟨true,b,rfl,⟨xs,h1.sq⟩,q _ H1 ai g1 m1 (j6 λi bU H2 M2 g2 m2 o e=>⟨ds,xs,(cR e).symm,g2.oV _ _ rd,(g2.kF h1).sq⟩)⟩
  ·have q:lh X.K ads H R (.ok (.gE ds) M1):=q;obtain⟨b,xs,rfl,h0,h1,n,rd⟩:=r1;exact⟨true,b,rfl,⟨xs,fN.of h1⟩,q _ H1 ai g1 m1 (j6 λi bU H2 M2 g2 m2 o e=>⟨ds,xs,(cR e).symm,g2.oV _ _ rd,fN.of (g2.kept b _ n h1)⟩)⟩
 | err _ _=>rw[hq]at q;exact q
 | af=>rw[hq]at q;exact q.elim
end
end
section
variable [EX]
def tG(K:Frag)(tg:List Nat):TG:=λv σ H Q=>∃ads M ρ d,SR K ads M ρ σ H/\RD K ads H d v/\∃eg,bH tg d ρ=some eg/\∀cY,SR K ads M eg cY H->Q cY H
theorem SR.set{K:Frag}{ads:List Addr}{M:ag}{ρ:En}{σ:L2.St}{H:Hp}(s:SR K ads M ρ σ H)(i:Nat){d:D}{v:V}(r:RD K ads H d v):SR K ads M (ρ.set i (some d)) (σ.set i (some v)) H :=
 ⟨s.mem,λj d' e=>by
  by_cases h:i=j
  ·subst h
   have hl:i<ρ.length:=by
    have:=(bG.mp e).1;simpa using this
   rw[mH hl]at e;cases e;exact⟨v,by rw[mH (by rw[<- s.ln];exact hl)],r⟩
  ·rw[kH h]at e⊢;exact s.en j d' e,by simp[s.ln]⟩
def gN:List Nat->HU
 | []=>OS
 | i::r=>HV (xD i) (gN r)
section
variable {kk:Nat} {X:Cx} {cc:CC} {G:a_}
theorem Good.nm(g:Good kk X cc G){x:Str}(h:(cc.names.lookup x==some .local||cc.names.lookup x==some .cell)=true):Loc X.env.scope x/\(X.fn x=true\/X.env.scope.names.lookup x=some .local):=by
 rw[yZ]at h;rcases h with h | h
 ·have h:=eq_of_beq h;exact⟨.inl (g.kinds x _ h),.inr (g.kinds x _ h)⟩
 ·have h:=eq_of_beq h;exact⟨.inr (g.kinds x _ h),.inl (g.ZC x h)⟩
theorem ye(g:Good kk X cc G):∀(tg:List Nat)(es:List Expr),jY cc tg es=true->NA X es (gN tg)/\es.length=tg.length/\(assignEach es X.env).length=tg.length/\(assignEach es X.env).findIdx? (·.1)=none
 | [],[],_=>⟨Fb,rfl,rfl,rfl⟩
 | [],_::_,h=>by cases h
 | _::_,[],h=>by cases h
 | i::tg,e::es,h=>by
  obtain⟨h,h3⟩:=(aR _ _).mp h;obtain⟨ih,l1,l2,l3⟩:=ye g tg es h3;refine bY (P:=λe=>NA X (e::es) (gN (i::tg))/\(e::es).length=(i::tg).length/\(assignEach (e::es) X.env).length=(i::tg).length/\(assignEach (e::es) X.env).findIdx? (·.1)=none) h λx p h=>?_;obtain⟨h1,h2⟩:=(aR _ _).mp h;obtain⟨n1,n2⟩:=g.nm h2;refine⟨Br (qy (by rw[g.N];exact g.nd) (by rw[g.N];exact eq_of_beq h1) n1 n2) ih,by simp[l1],?_,?_⟩
  ·show(assignEach es X.env).length+1=_;rw[l2];rfl
  ·show List.findIdx? _ ((false,_)::assignEach es X.env)=none;rw[List.findIdx?_cons];simp only[AM,oO];rw[l3];rfl
theorem Iz{K:Frag}{ads:List Addr}{M:ag}{H:Hp}{Q:L2.St->Hp->Prop}{eg:En}(hQ:∀cY,SR K ads M eg cY H->Q cY H):∀(tg:List Nat)(ds:List D)(xs:List V)(ρ:En)(σ:L2.St),SR K ads M ρ σ H->aV K ads H ds xs->dY tg ds ρ=some eg->gN tg xs σ H Q
 | [],[],xs,ρ,σ,s,r,e=>by
  unfold aV at r;subst r;cases e;exact⟨rfl,hQ σ s⟩
 | [],_::_,_,_,_,_,_,e=>by cases e
 | _::_,[],_,_,_,_,_,e=>by cases e
 | i::tg,d::ds,xs,ρ,σ,s,r,e=>by
  unfold aV at r;obtain⟨x,r',rfl,h1,h2⟩:=r;exact⟨x,r',rfl,Iz hQ tg ds r' _ _ (s.set i h1) h2 e⟩
theorem nK:∀(tg:List Nat)(ds:List D)(ρ eg:En),dY tg ds ρ=some eg->ds.length=tg.length
 | [],[],_,_,_=>rfl
 | [],_::_,_,_,e=>by cases e
 | _::_,[],_,_,e=>by cases e
 | i::tg,d::ds,ρ,eg,e=>by simp[nK tg ds _ eg e]
theorem j7(g:Good kk X cc G){tg:List Nat}{t:Expr}(h:iV cc tg t=true):PG X t (tG X.K tg):=by
 rcases tg with _|⟨i,_|⟨j,tl⟩⟩
 ·exact absurd h aY
 ·refine bY (P:=λt=>PG X t _) ((aR _ _).mp h).1 λx p h=>?_;obtain⟨h1,h2⟩:=(aR _ _).mp h;obtain⟨n1,n2⟩:=g.nm h2;intro ae s σ H v u Q I r q;refine qy (by rw[g.N];exact g.nd) (by rw[g.N];exact eq_of_beq h1) n1 n2 ae s σ H v u Q I r ?_;obtain⟨ads,M,ρ,d,sr,rd,eg,e,hQ⟩:=q;cases e;exact hQ _ (sr.set i rd)
 ·refine jo (P:=λt=>PG X t _) h λes kq p h=>?_;obtain⟨a,l1,l2,l3⟩:=ye g (i::j::tl) es ((aR _ _).mp h).1;intro ae s σ H v u Q I r q;refine JX (pos:=p) (k:=kq) g.calm a l2 l3 ae s σ H v u Q I r ?_;obtain⟨ads,M,ρ,d,sr,rd,eg,e,hQ⟩:=q
  have e':∃ds,d=.tup ds/\dY (i::j::tl) ds ρ=some eg:=by
   cases d<;>first | cases e | exact⟨_,rfl,e⟩
  obtain⟨ds,rfl,e2⟩:=e';unfold RD at rd;obtain⟨b,xs,rfl,hb,rd⟩:=rd;exact⟨b,xs,rfl,gx.of hb,by rw[<- rd.len,nK _ ds ρ eg e2],Iz hQ _ ds xs ρ σ sr rd e2⟩
end
theorem jr {env : Env} : ∀ (names : List (Str × NameKind)) (acc : List (Str × Addr)), (∀ y ∈ names, y.2 = .free -> ∃ c, env.cells.lookup y.1 = some c) -> (∀ x c, acc.lookup x = some c -> env.cells.lookup x = some c) ->
    ∃cl,(forIn names acc λ(x:Str×NameKind) (r:List (Str×Addr))=>(match x with | (name,kind)=>if (kind==NameKind.free)=true then do let a <- cellOf env name;pure (ForInStep.yield ((name,a)::r)) else pure (ForInStep.yield r):Sem (ForInStep (List (Str×Addr)))))=pure cl /\
      (∀x c,cl.lookup x=some c->env.cells.lookup x=some c)/\(∀x,(acc.lookup x).isSome=true->(cl.lookup x).isSome=true)/\∀y∈names,y.2=.free->(cl.lookup y.1).isSome=true
  | [],acc,_,h=>⟨acc,rfl,h,λ_ q=>q,λy hy=>by cases hy⟩
  | (n,k)::r,acc,hn,h=>by
    by_cases hk:k=.free
    · subst hk;obtain⟨c,hc⟩:=hn (n,.free) ez rfl
      have h2:∀x c',((n,c)::acc).lookup x=some c'->env.cells.lookup x=some c':=λx c' e=>by
        rw[e_]at e;by_cases hx:x=n
        · subst hx;simp at e;rw[<- e];exact hc
        · have:(x==n)=false:=oJ.mpr hx;rw[this]at e;exact h x c' e
      obtain⟨cl,e1,e2,e3,e4⟩:=jr r ((n,c)::acc) (λy hy=>hn y (dP _ hy)) h2;refine⟨cl,?_,e2,λx q=>e3 x ?_,λy hy hf=>?_⟩
      · rw[List.forIn_cons];have:cellOf env n=pure c:=by unfold cellOf;rw[hc]
        simp only[mJ,dA,this];exact e1
      · rw[e_];by_cases hx:(x==n)=true
        · simp[hx]
        · simp only[hx];exact q
      · rcases bT.mp hy with z | z
        · subst z;exact e3 _ (by simp[e_])
        · exact e4 y z hf
    · obtain⟨cl,e1,e2,e3,e4⟩:=jr r acc (λy hy=>hn y (dP _ hy)) h;refine⟨cl,?_,e2,e3,λy hy hf=>?_⟩
      · rw[List.forIn_cons];have:(k==NameKind.free)=false:=by simpa using hk
        simp only[this,AM,oO];exact e1
      · rcases bT.mp hy with z | z
        · subst z;exact absurd hf hk
        · exact e4 y z hf
theorem yf{X:Cx}{sc:Scope}(h:∀y∈sc.names,y.2=.free->∃c,X.env.cells.lookup y.1=some c):∃cl,Kt X sc cl:=by
 obtain⟨cl,e1,e2,e3,e4⟩:=jr sc.names [] h (λx c e=>by cases e);refine⟨cl,?_,e2,λx hx=>vj.mp (e4 (x,.free) (mI hx) rfl)⟩;unfold closureFor;exact oN (λm=>m >>= λcs=>pure cs) e1
section
variable {kk:Nat} {X:Cx} {cc:CC} {G:a_}
theorem mh{sc:Scope}(h:t_ cc sc=true):sc.kind=.function/\(∀y∈sc.names,y.2=.cell->sc.names.lookup y.1=some .cell)/\(∀y∈sc.names,y.2=.local->sc.names.lookup y.1=some .local)/\(eP sc).Nodup/\∀y∈sc.names,y.2=.free->sc.names.lookup y.1=some .free/\(cc.names.lookup y.1=some .cell\/cc.names.lookup y.1=some .free):=by
 unfold t_ at h;simp only[aR,iI,sQ,bne_iff_ne,ne_eq,qj,yZ]at h;obtain⟨⟨⟨⟨h1,h2⟩,h3⟩,h4⟩,h5⟩:=h;refine⟨h1,λy hy hk=>?_,λy hy hk=>?_,h4,λy hy hk=>?_⟩
 ·rcases h2 y hy with z | z
  ·exact absurd hk z
  ·exact z
 ·rcases h3 y hy with z | z
  ·exact absurd hk z
  ·exact z
 ·rcases h5 y hy with z | z
  ·exact absurd hk z
  ·exact z
theorem Good.block(g:Good kk X cc G){sc:Scope}(h:t_ cc sc=true){cl:List (Str×Addr)}(C:Addr)(s:Shared)(H:Hp)(fp:List Addr):@Good never kk (X.block sc cl C (eP sc) s H fp []) (pP cc sc) G:=by
 obtain⟨h1,h2,h3,h4,h5⟩:=mh h;refine @Good.mk never kk (X.block sc cl C (eP sc) s H fp []) (pP cc sc) G g.calm g.room rfl h4 (λx k e=>?_) (λx e=>?_) g.blt g.W6 g.fns ⟨E0,(by rintro _ _ _ _ _ _ _ ⟨_,_,_,_,_,_,_,_,_,_,_,_,_,h⟩;exact h.elim),λh=>h.elim⟩
 ·have e:sc.names.lookup x=some k:=e;have r:=dX (env:=X.env) e;have kd:(X.block sc cl C (eP sc) s H fp []).env.kindOf x=some (if (k==NameKind.free&&X.env.scope.kind == .function&&X.env.kindOf x==some .cell) then .cell else k):=r
  cases k with
  | «local»=>exact kd
  | cell=>exact kd
  | free =>
   show _\/_;rw[kd];split
   ·exact .inl rfl
   ·exact .inr rfl
  | globalExplicit=>exact True.intro
  | globalImplicit=>exact kd
 ·have e:sc.names.lookup x=some .cell:=e;show(sc.names.lookup x==some .cell)=true;rw[e];rfl
theorem CW(g:Good kk X cc G){sc:Scope}(h:t_ cc sc=true):B4 X sc (eP sc) (nF cc sc):=by
 obtain⟨h1,h2,h3,h4,h5⟩:=mh h;refine⟨by simp[nF],λi j x e1 e2=>?_⟩;unfold nF at e1;rw[c_,e2]at e1;simp only[vv,sO]at e1;split at e1
 ·rename_i hf
  have hf:sc.names.lookup x=some .free:=by simpa using hf
  obtain⟨_,ho⟩:=h5 (x,.free) (mI hf) rfl;refine⟨?_,hf,?_⟩
  ·rw[g.N];obtain⟨hj,hx,_⟩:=N3.mp e1;rw[bZ hj];have:cc.N[j]=x:=by simpa using hx
   rw[this]
  ·rcases ho with ho | ho
   ·exact .inl (g.kinds x _ ho)
   ·exact g.kinds x _ ho
 ·cases e1
theorem CY{K:Frag}{ads:List Addr}{M:ag}{ρ:En}{σ:L2.St}{H:Hp}(s:SR K ads M ρ σ H)(cO:List (Option Nat)):SR K ads M (eT cO ρ) (jQ cO σ) H:=by
 refine⟨s.mem,λi d e=>?_,by simp[eT,jQ]⟩;unfold eT at e;unfold jQ;rw[c_]at e⊢
 cases q:cO[i]? with
 | none=>rw[q]at e;cases e
 | some o =>
  rw[q]at e
  cases o with
  | none=>cases e
  | some j =>
   have e:(ρ[j]?).join=some d:=cR e
   have e2:ρ[j]?=some (some d):=by
    cases r:ρ[j]? with
    | none=>rw[r]at e;cases e
    | some z=>rw[r]at e;cases z with
     | none=>cases e
     | some y=>cases e;rfl
   obtain⟨v,ev,rv⟩:=s.en j d e2;exact⟨v,by simp[ev],rv⟩
theorem ay.yg{ads ar:List Addr}{H H':Hp}{D:Addr}{o:HO}(g:ay ads ar H H')(h:H D=none):ay ads ar H (bu H' D o) :=
 ⟨g.pre,g.new,λb x n e=>by rw[aq (λz=>by subst z;rw[h]at e;cases e)];exact g.kept b x n e,λb x e=>by rw[aq (λz=>by subst z;rw[h]at e;cases e)];exact g.eW b x e,
  λb x u e=>by rw[aq (λz=>by subst z;rw[h]at e;cases e)];exact g.gW b x u e⟩
theorem ug{K:Frag}{G:a_}{it:Ev.It}{J:L2.It}{tg:List Nat}{cond:Option eN}{elt:C}{cO:List (Option Nat)}{ads:List Addr}{M:ag}{ρ:En}{σ:L2.St}{H:Hp}{Q:VK}{f:Nat}(s:SR K ads M ρ σ H)(hJ:Es K ads H it J)(q:cC K ads H Q (bc (λτ M=>bI G cond τ M) (λτ M=>(ev G elt τ M).bind own) it tg f 0 (eT cO ρ) M [])):vR cO (tG K tg) (cond.map λt=>@oH never K (d_ G t)) (@tE never K (ev G elt)) σ J H Q:=by
  intro D hD;have ZQ:=s.mem.fresh hD
  refine⟨λi m τ H' ys=>∃ar M' nL acc,SR K ar M' nL τ H'/\ay ads ar H H'/\D∉ar/\H' D=some (.lst ys)/\aV K ar H' acc ys/\cC K ads H Q (bc (λτ M=>bI G cond τ M) (λτ M=>(ev G elt τ M).bind own) it tg m i nL M' acc),
    ⟨f,ads,M,eT cO ρ,[],?_,(ay.refl _ _).yg hD,ZQ,aS,(by unfold aV;rfl),q⟩,?_⟩
  · have g0:ay ads ads H (bu H D (.lst [])):=ay.dR s.mem hD;exact(CY s cO).grow g0 (s.mem.dR hD)
  rintro i m τ H' ys ⟨ar,M',nL,acc,s',g',dn,hl,ra,q'⟩;refine⟨hl,?_⟩;obtain⟨r1,r2⟩:=hJ i ar H' M' g' s'.mem
  have stop:itemAt M' i it=some none->cC K ads H Q (.ok (.lv acc) M')->(J.stop i H'/\Q (.ref D) H'):=λhi q' =>
    ⟨r1 hi,q' (.ref D) H' ar g' s'.mem ⟨D,ys,rfl,hD,hl,dn,ra⟩⟩
  cases m with
  | zero =>
    unfold bc at q';split at q'
    · rename_i hi
      exact .inl (stop hi q')
    · exact q'.elim
  | succ m =>
    unfold bc at q';split at q'
    · rename_i hi
      exact .inl (stop hi q')
    · rename_i d hi
      obtain⟨go,yl⟩:=r2 d hi
      cases hb:bH tg d nL with
      | none=>rw[hb]at q';exact q'.elim
      | some u9 =>
        rw[hb]at q';dsimp only at q';split at q'
        · rename_i hz
          refine .inr ⟨go,by rw[<- ra.len];exact hz,λx H2 y=>?_⟩;obtain⟨g2,m2,rd⟩:=yl x H2 y;have As:H2 D=some (.lst ys):=g2.kept D _ dn hl;refine⟨ar,M',nL,d,s'.grow g2 m2,rd,u9,hb,λEj s2=>?_⟩
          have eA : ∀ b M3 H3 d5, ay ar d5 H2 H3 -> aU K d5 H3 M3 -> cC K ads H Q (if b = true then ((ev G elt u9 M3).bind own).b0 fun x M => bc (fun τ M => bI G cond τ M) (fun τ M => (ev G elt τ M).bind own) it tg m (i + 1) u9 M (acc ++ [x]) else bc (fun τ M => bI G cond τ M) (fun τ M => (ev G elt τ M).bind own) it tg m (i + 1) u9 M3 acc) ->
              (if b=true then @tE never K (ev G elt) Ej H3 λv H4=>H4 D=some (.lst ys)/\∃m',m'<m+1/\∃ar M' nL acc,SR K ar M' nL Ej (bu H4 D (.lst (ys++[v])))/\ay ads ar H (bu H4 D (.lst (ys++[v])))/\D∉ar/\(bu H4 D (.lst (ys++[v]))) D=some (.lst (ys++[v]))/\aV K ar (bu H4 D (.lst (ys++[v]))) acc (ys++[v])/\cC K ads H Q (bc (λτ M=>bI G cond τ M) (λτ M=>(ev G elt τ M).bind own) it tg m' (i+1) nL M' acc)
               else ∃m',m'<m+1/\∃ar M' nL acc,SR K ar M' nL Ej H3/\ay ads ar H H3/\D∉ar/\H3 D=some (.lst ys)/\aV K ar H3 acc ys/\cC K ads H Q (bc (λτ M=>bI G cond τ M) (λτ M=>(ev G elt τ M).bind own) it tg m' (i+1) nL M' acc)):=by
            intro b M3 H3 d5 g3 m3 q3;have Vk:D∉d5:=g3.cT dn As;have NQ:H3 D=some (.lst ys):=g3.kept D _ dn As;have s3:=s2.grow g3 m3;have gg:=(g'.trans g2).trans g3;have Xa:=(g2.trans g3).oV _ _ ra
            cases b with
            | false =>
              rw[aP (by simp)]at q3⊢;exact⟨m,EW _,d5,M3,u9,acc,s3,gg,Vk,NQ,Xa,q3⟩
            | true =>
              rw[aF rfl]at q3⊢;refine⟨d5,M3,u9,s3,?_⟩
              cases he:ev G elt u9 M3 with
              | ok w M4 =>
                rw[he]at q3;intro v H4 GC g4 m4 r4;have q3:cC K ads H Q ((own w M4).b0 λx M=>bc (λτ M=>bI G cond τ M) (λτ M=>(ev G elt τ M).bind own) it tg m (i+1) u9 M (acc++[x])):=q3;have rq:H4 D=some (.lst ys):=g4.kept D _ Vk NQ;refine⟨rq,m,EW _,?_⟩
                cases ho:own w M4 with
                | ok dd M5 =>
                  rw[ho]at q3;obtain⟨GK,g5,m5,ZR⟩:=nH s3.mem g4 m4 r4 ho;have Xb:D∉GK:=g5.cT Vk NQ;have tk:TF H4 (bu H4 D (.lst (ys++[v]))):=⟨λb xs e=>by rw[aq (λz=>by subst z;rw[rq]at e;cases e)];exact e,λb o u e=>by rw[aq (λz=>by subst z;rw[rq]at e;cases e)];exact e⟩;have m6:aU K GK (bu H4 D (.lst (ys++[v]))) M5:=m5.keep tk λa ha=>aq (λz=>by subst z;exact Xb ha)
                  have ZS:PM K GK (bu H4 D (.lst (ys++[v]))) u9 Ej:=λj d e=>by
                    obtain⟨u,e1,r⟩:=g5.W0 s3.en j d e;exact⟨u,e1,RD.keep tk _ _ r⟩
                  exact⟨GK,M5,u9,acc++[dd],⟨m6,ZS,s3.ln⟩,(gg.trans g5).yg hD,Xb,aS,aV.keep tk _ _ ((g5.oV _ _ Xa).app (.one ZR)),q3⟩
                | err _ _=>cases w<;>cases ho
                | af=>cases w<;>cases ho
              | err _ _=>rw[he]at q3;exact q3
              | af=>rw[he]at q3;exact q3
          cases cond with
          | none =>
            exact eA true M' H2 ar (ay.refl _ _) m2 q'
          | some t =>
            show @oH never K (d_ G t) Ej H2 _;refine⟨ar,M',u9,s2,?_⟩;have q':cC K ads H Q ((d_ G t u9 M').b0 λb M=>if b=true then ((ev G elt u9 M).bind own).b0 λx M=>bc (λτ M=>bI G (some t) τ M) (λτ M=>(ev G elt τ M).bind own) it tg m (i+1) u9 M (acc++[x]) else bc (λτ M=>bI G (some t) τ M) (λτ M=>(ev G elt τ M).bind own) it tg m (i+1) u9 M acc):=q'
            cases ht:d_ G t u9 M' with
            | ok b M3 =>
              rw[ht]at q';intro H3 d5 g3 m3;exact eA b M3 H3 d5 g3 m3 q'
            | err _ _=>rw[ht]at q';exact q'
            | af=>rw[ht]at q';exact q'
        · exact q'.elim
    · exact q'.elim
end
end
section
variable [EX]
variable {kk:Nat} {G:a_}
theorem rB{e:Expr}(h:fU e=true)(env:Env):∀x,foldedSetIterable e env x=pure x:=by
 intro x;cases e<;>first | rfl | exact absurd (show false=true from h) aY
theorem Lp{X:Cx}{cc:CC}{k:SK}{dC:List C}{tg:List Nat}{cond:Option eN}{elt:C}{cO:List (Option Nat)}{el t aK:Expr}{ifs:List Expr}{sc:Scope}{pos:Pos}(g:Good kk X cc G)(CZ:t_ cc sc=true)(BZ:cO=nF cc sc)(kC:fU aK=true)(C0:PI X t aK (tI X.K (dM G k dC)))(Vl:iV (pP cc sc) tg t=true)(j8:GA (pP cc sc) cond ifs=true)(Sv:∀t,cond=some t->∀X':Cx,X'.K=X.K->@Good never kk X' (pP cc sc) G->∀e,lb (pP cc sc) t e=true->PT X' e (@oH never X'.K (d_ G t)))(ZT:∀X':Cx,X'.K=X.K->@Good never kk X' (pP cc sc) G->PE X' el (@tE never X'.K (ev G elt))):∃(wi:TI) (cl:(X:Cx)->Prop),True/\PE X (.ListComp el [⟨t,aK,ifs,0⟩] sc pos) (tE X.K (ev G (.comp k dC tg cond elt cO))):=by
 refine⟨λ_ _ _=>True,λ_=>True,True.intro,?_⟩;intro ae s σ H Q I q;obtain⟨h1,h2,h3,h4,h5⟩:=mh CZ
 obtain⟨cl,Sz⟩:=yf (X:=X) (sc:=sc) λy hy hf=>by
  obtain⟨_,ho⟩:=h5 y hy hf;refine I.ok.has y.1 ?_;rcases ho with ho | ho
  ·exact .inl (g.kinds _ _ ho)
  ·exact g.kinds _ _ ho
 have ck:kS X sc (eP sc) cO cl t el ifs (tG X.K tg) (cond.map λt=>@oH never X.K (d_ G t)) (@tE never X.K (ev G elt)):=by
  refine⟨h1,h2,h3,Sz,BZ▸CW g CZ,λC s H fp=>(by have gb:=g.block (cl:=cl) CZ C s H fp;letI:=never;exact j7 gb Vl),?_,λC s H fp=>ZT _ rfl (g.block CZ C s H fp)⟩
  cases cond with
  | none =>
   cases ifs with
   | nil=>rfl
   | cons _ _=>cases j8
  | some tt =>
   cases ifs with
   | nil=>cases j8
   | cons e es =>
    cases es with
    | cons _ _=>cases j8
    | nil=>exact⟨e,rfl,λC s H fp=>Sv tt rfl (X.block sc cl C (eP sc) s H fp []) rfl (g.block CZ C s H fp) e j8⟩
 refine FV g.calm C0 ck (rB kC X.env) ae s σ H Q I ?_;obtain⟨ads,M,ρ,sr,q⟩:=q;refine⟨ads,M,ρ,sr,?_⟩
 have q:cC X.K ads H Q ((dM G k dC ρ M).bind λit M=>bc (λτ M=>bI G cond τ M) (λτ M=>(ev G elt τ M).bind own) it tg (dj M it) 0 (eT cO ρ) M []):=by
  simp only[qV]at q;unfold dM
  cases hw:dk G dC ρ M with
  | ok ws M1=>rw[hw]at q;exact q
  | err _ _=>rw[hw]at q;exact q
  | af=>rw[hw]at q;exact q
 cases hs:dM G k dC ρ M with
 | ok it M1 =>
  rw[hs]at q;intro J H1 ai g1 m1 rj;exact ug (sr.grow g1 m1) rj (cC.shift (o:=bc (λτ M=>bI G cond τ M) (λτ M=>(ev G elt τ M).bind own) it tg (dj M1 it) 0 (eT cO ρ) M1 []) q g1 sr.mem m1)
 | err _ _=>rw[hs]at q;exact q
 | af=>rw[hs]at q;exact q
end
theorem gJ[EX]{X:Cx}{cc:CC}{G:a_}{c:C}{e:Expr}(h:(iB e&&cg cc c e)=true)(k:cg cc c e=true->PE X e (tE X.K (ev G c))):PT X e (oH X.K (d_ G (.val c))):=GG ((aR _ _).mp h).1 (k ((aR _ _).mp h).2)
mutual
theorem bx{kk:Nat}{G:a_}:∀(c:C)(ex:EX)(cc:CC)(X:Cx)(e:Expr),@Good ex kk X cc G->cg cc c e=true->PE X e (@tE ex X.K (ev G c))
 | .dH i,ex,cc,X,e,g,h=>P4 g h
 | .bb d,ex,cc,X,e,g,h=>P5 h
 | .bin op a b,ex,cc,X,e,g,h=>P6 (λe h=>bx a ex cc X e g h) (λe h=>bx b ex cc X e g h) h
 | .cmp op a b,ex,cc,X,e,g,h=>(Ir g (λe h=>bx a ex cc X e g h) (λe h=>bx b ex cc X e g h) h).1
 | .chain o1 o2 a b c,ex,cc,X,e,g,h=>(x9 g (λe h=>bx a ex cc X e g h) (λe h=>bx b ex cc X e g h) (λe h=>bx c ex cc X e g h) h).1
 | .eC cs,ex,cc,X,e,g,h=>by
  refine fG (P:=λe=>PE X e _) h λop es pos h=>?_;simp only[aR,i4,AF]at h
  cases op with
  | Or=>exact absurd h.1.1 aY
  | And=>exact gp (Iu (op:=.And) cs es pos (rC cs ex cc X g) h.1.2 h.2) λσ H Q q=>q
 | .gj cs,ex,cc,X,e,g,h=>by
  refine fG (P:=λe=>PE X e _) h λop es pos h=>?_;simp only[aR,i4,AF]at h
  cases op with
  | And=>exact absurd h.1.1.symm aY
  | Or=>exact gp (Qa cs es pos (rC cs ex cc X g) h.1.2 h.2) λσ H Q q=>q
 | .neg a,ex,cc,X,e,g,h=>P7 (λe h=>bx a ex cc X e g h) h
 | .ite t a b,ex,cc,X,e,g,h=>wc (P:=λe=>PE X e _) h λc x y pos h=>by
  simp only[aR]at h;exact Qd (zV t ex cc X c g h.1.1) (bx a ex cc X x g h.1.2) (bx b ex cc X y g h.2)
 | .tup cs,ex,cc,X,e,g,h=>P8 (λes h=>pQ cs ex cc X es g h) h
 | .lst cs,ex,cc,X,e,g,h=>P9 (λes h=>pQ cs ex cc X es g h) h
 | .sub a b,ex,cc,X,e,g,h=>d4 (P:=λe=>PE X e _) h λe i pos h=>by
  simp only[aR]at h;exact Qe g h.1.1 (bx a ex cc X e g h.1.2) (bx b ex cc X i g h.2)
 | .jz a lo hi,ex,cc,X,e,g,h=>d4 (P:=λe=>PE X e _) h λe i pos h=>nD (P:=λi=>PE X (.Subscript e i pos) _) h λl u st p h=>by
  simp only[aR]at h
  cases st with
  | some _=>exact absurd h.1.1.1 aY
  | none=>exact Qf (bx a ex cc X e g h.1.1.2) (Qm lo ex cc X l g h.1.2) (Qm hi ex cc X u g h.2)
 | .Aw a k,ex,cc,X,e,g,h=>d4 (P:=λe=>PE X e _) h λe i pos h=>nD (P:=λi=>PE X (.Subscript e i pos) _) h λl u st p h=>by
  rcases l with _|_<;>first | exact absurd h aY | skip
  rcases u with _|_<;>first | exact absurd h aY | skip
  rcases st with _ | ke<;>first | exact absurd h aY | skip
  replace h:=(aR _ _).mp h
  refine Qj ?_ (bx a ex cc X e g h.2);rcases(yZ _ _).mp h.1 with h | h
  ·refine cf (P:=λke=>PE X ke _) h λc j p2 h=>?_;cases c<;>first | exact absurd h aY | skip
   obtain rfl:=eq_of_beq h;exact qu
  ·refine eX (P:=λke=>PE X ke _) h λop x p2 h=>?_
   replace h:=(aR _ _).mp h
   cases op<;>first | exact absurd h.1 aY | skip
   refine cf (P:=λx=>PE X (.UnaryOp .USub x p2) _) h.2 λc j p3 h=>?_;cases c<;>first | exact absurd h aY | skip
   rename_i jj
   obtain rfl:k=-jj:=by have:=eq_of_beq h;omega
   exact gp (HY By qu) λσ H Q q=>⟨jj,rfl,q⟩
 | .call f cs,ex,cc,X,e,g,h=>e8 (P:=λe=>PE X e _) h λfe args jZ pos h=>bY (P:=λfe=>PE X (.Call fe args jZ pos) _) h λx p h=>by
  rcases args with _|⟨e,es⟩<;>first | exact absurd h aY | skip
  cases jZ<;>first | exact absurd h aY | skip
  simp only[aR,iI]at h;exact Ll g h.1.1.1 h.1.1.2 h.1.2 h.2 (pQ cs ex cc X (e::es) g h.2)
 | .bi b cs,ex,cc,X,e,g,h=>e8 (P:=λe=>PE X e _) h λfe args jZ pos h0=>bY (P:=λfe=>PE X (.Call fe args jZ pos) _) h0 λx p h=>by
  clear h0
  replace h:=(aR _ _).mp h
  have h1:=h.1
  replace h:=h.2
  simp only[aR,AR]at h1;obtain⟨⟨rfl,hx⟩,hg⟩:=h1
  cases hb:CL b with
  | none =>
   rw[hb]at h;rcases args with _|⟨e,es⟩<;>first | exact absurd h aY | skip
   replace h:=(aR _ _).mp h
   have fO:aX e=true/\cq cc cs.tail es=true:=by
    cases cs with
    | nil=>exact absurd h.2 aY
    | cons c cs =>
     have h':(aX e&&cg cc c e&&cq cc cs es)=true:=h.2;simp only[aR]at h';exact⟨h'.1.1,h'.2⟩
   exact Vh g h.1 (eq_of_beq hx) hg fO.1 fO.2 (IA cs ex cc X (e::es) g h.2)
  | some t =>
   rw[hb]at h;obtain rfl:=wt hb;rcases args with _|⟨e,_|⟨f,_|⟨f2,fs⟩⟩⟩<;>first | exact absurd h aY | skip
   replace h:=(aR _ _).mp h
   refine bY (P:=λf=>PE X (.Call (.Name x p) [e,f] [] pos) _) h.1 λy py hy=>?_;simp only[aR,qj]at hy;rcases cs with _|⟨c,_|⟨c2,cs⟩⟩
   ·exact absurd h.2 aY
   ·have h7:(aX e&&cg cc c e&&true)=true:=h.2;simp only[aR]at h7;exact Qi g (eq_of_beq hx) hg (eq_of_beq hy.1.1) hy.1.2 hy.2 h7.1.1 (bx c ex cc X e g h7.1.2)
   ·have h7:(aX e&&cg cc c e&&cq cc (c2::cs) [])=true:=h.2;simp only[aR]at h7;exact absurd h7.2 aY
 | .me m o cs,ex,cc,X,e,g,h=>e8 (P:=λe=>PE X e _) h λfe args jZ pos h=>nC (P:=λfe=>PE X (.Call fe args jZ pos) _) h λe n ap h=>by
  simp only[aR,AR]at h;obtain⟨⟨⟨⟨⟨⟨⟨rfl,h1⟩,h2⟩,h3⟩,h4⟩,h5⟩,h6⟩,h7⟩:=h;exact Vj (eq_of_beq h1) h2 h3 h4 h6 (Jx h7) (bx o ex cc X e g h5) (pQ cs ex cc X args g h6)
 | .zF ks cs,ex,cc,X,e,g,h=>zP (P:=λe=>PE X e _) h λkeys vs pos h=>by
  simp only[yZ,aR,i4,AF,qj,AR]at h;rcases h with⟨⟨⟨⟨⟨h1,h2⟩,h3⟩,h4⟩,h5⟩,h6⟩|⟨⟨⟨rfl,rfl⟩,rfl⟩,rfl⟩
  ·exact Ql h1 h2 h3 h4 h5 h6 (rC cs ex cc X g)
  ·exact Lo
 | .lB tp cs,_,_,_,_,_,h=>absurd (show false=true from h) aY
 | .Gd x v,ex,cc,X,e,g,h=>bY (P:=λe=>PE X e _) h λy pos h=>by
  simp only[aR,iI]at h;obtain⟨⟨⟨rfl,h1⟩,h2⟩,h3⟩:=h;exact Qk g h1 h2 h3
 | .gD ng a,ex,cc,X,e,g,h=>(CO (λe h=>bx a ex cc X e g h) h).1
 | .comp k dC tg cond elt cO,ex,cc,X,e,g,h=>iU (P:=λe=>PE X e _) h λel gens sc pos h=>by
  rcases gens with _|⟨⟨t,aK,ifs,as⟩,_|⟨_,_⟩⟩<;>first | exact absurd h aY | skip
  simp only[aR,iI,qj]at h;obtain⟨⟨⟨⟨⟨⟨rfl,h1⟩,h2⟩,h3⟩,h4⟩,h5⟩,h6⟩:=h;obtain⟨C0,kC⟩:=wB dC k ex cc X t aK g h3;obtain⟨_,_,_,r⟩:=Lp (pos:=pos) g h1 h2 kC C0 h4 h5 (λt ht X' _ g' e he=>GL cond never (pP cc sc) X' g' t ht e he) (λX' _ g'=>bx elt never (pP cc sc) X' el g' h6);exact r
theorem zV{kk:Nat}{G:a_}:∀(t:eN)(ex:EX)(cc:CC)(X:Cx)(e:Expr),@Good ex kk X cc G->lb cc t e=true->PT X e (@oH ex X.K (d_ G t))
 | .val (.cmp op a b),ex,cc,X,e,g,h=>wz Li (Ir g (λe h=>bx a ex cc X e g h) (λe h=>bx b ex cc X e g h) h).2
 | .val (.chain o1 o2 a b c),ex,cc,X,e,g,h=>wz CP (x9 g (λe h=>bx a ex cc X e g h) (λe h=>bx b ex cc X e g h) (λe h=>bx c ex cc X e g h) h).2
 | .val (.dH i),ex,cc,X,e,g,h=>gJ h (bx (.dH i) ex cc X e g)
 | .val (.bb d),ex,cc,X,e,g,h=>gJ h (bx (.bb d) ex cc X e g)
 | .val (.bin op a b),ex,cc,X,e,g,h=>gJ h (bx (.bin op a b) ex cc X e g)
 | .val (.eC cs),ex,cc,X,e,g,h=>gJ h (bx (.eC cs) ex cc X e g)
 | .val (.gj cs),ex,cc,X,e,g,h=>gJ h (bx (.gj cs) ex cc X e g)
 | .val (.neg a),ex,cc,X,e,g,h=>gJ h (bx (.neg a) ex cc X e g)
 | .val (.ite t a b),ex,cc,X,e,g,h=>gJ h (bx (.ite t a b) ex cc X e g)
 | .val (.tup cs),ex,cc,X,e,g,h=>gJ h (bx (.tup cs) ex cc X e g)
 | .val (.lst cs),ex,cc,X,e,g,h=>gJ h (bx (.lst cs) ex cc X e g)
 | .val (.sub a b),ex,cc,X,e,g,h=>gJ h (bx (.sub a b) ex cc X e g)
 | .val (.jz a lo hi),ex,cc,X,e,g,h=>gJ h (bx (.jz a lo hi) ex cc X e g)
 | .val (.Aw a k),ex,cc,X,e,g,h=>gJ h (bx (.Aw a k) ex cc X e g)
 | .val (.call f cs),ex,cc,X,e,g,h=>gJ h (bx (.call f cs) ex cc X e g)
 | .val (.bi b cs),ex,cc,X,e,g,h=>gJ h (bx (.bi b cs) ex cc X e g)
 | .val (.me m o cs),ex,cc,X,e,g,h=>gJ h (bx (.me m o cs) ex cc X e g)
 | .val (.zF ks cs),ex,cc,X,e,g,h=>gJ h (bx (.zF ks cs) ex cc X e g)
 | .val (.lB tp cs),ex,cc,X,e,g,h=>gJ h (bx (.lB tp cs) ex cc X e g)
 | .val (.gD ng a),ex,cc,X,e,g,h=>wz GD (CO (λe h=>bx a ex cc X e g h) h).2
 | .val (.Gd x v),ex,cc,X,e,g,h=>gJ h (bx (.Gd x v) ex cc X e g)
 | .val (.comp k dC tg cond elt cO),ex,cc,X,e,g,h=>gJ h (bx (.comp k dC tg cond elt cO) ex cc X e g)
 | .eC ts,ex,cc,X,e,g,h=>by
  refine fG (P:=λe=>PT X e _) h λop es pos h=>?_;simp only[aR,i4,AF]at h
  cases op with
  | Or=>exact absurd h.1.1 aY
  | And=>exact GB (Iv ts es pos (C1 ts ex cc X g) h.1.2 h.2).pt λσ H Q q=>q
 | .gj ts,ex,cc,X,e,g,h=>by
  refine fG (P:=λe=>PT X e _) h λop es pos h=>?_;simp only[aR,i4,AF]at h
  cases op with
  | And=>exact absurd h.1.1.symm aY
  | Or=>exact GB (Iw ts es pos (C1 ts ex cc X g) h.1.2 h.2).pt λσ H Q q=>q
 | .neg t,ex,cc,X,e,g,h=>by
  refine eX (P:=λe=>PT X e _) h λop x pos h=>?_
  replace h:=(aR _ _).mp h
  cases op<;>first | exact absurd h.1 aY | skip
  exact Qc (zV t ex cc X x g h.2)
theorem pQ{kk:Nat}{G:a_}:∀(cs:List C)(ex:EX)(cc:CC)(X:Cx)(es:List Expr),@Good ex kk X cc G->cq cc cs es=true->PA X es (@Eo ex X.K (bB G cs))
 | [],ex,cc,X,[],g,h=>P_
 | [],ex,cc,X,_::_,g,h=>by cases h
 | _::_,ex,cc,X,[],g,h=>by cases h
 | c::cs,ex,cc,X,e::es,g,h=>by
  have h':(aX e&&cg cc c e&&cq cc cs es)=true:=h;simp only[aR]at h';exact Lh h'.1.1 (bx c ex cc X e g h'.1.2) (pQ cs ex cc X es g h'.2)
theorem IA{kk:Nat}{G:a_}:∀(cs:List C)(ex:EX)(cc:CC)(X:Cx)(es:List Expr),@Good ex kk X cc G->cq cc cs es=true->PA X es (@NN ex X.K (dk G cs))
 | [],ex,cc,X,[],g,h=>Qh
 | [],ex,cc,X,_::_,g,h=>by cases h
 | _::_,ex,cc,X,[],g,h=>by cases h
 | c::cs,ex,cc,X,e::es,g,h=>by
  have h':(aX e&&cg cc c e&&cq cc cs es)=true:=h;simp only[aR]at h';exact Lm h'.1.1 (bx c ex cc X e g h'.1.2) (IA cs ex cc X es g h'.2)
theorem rC{kk:Nat}{G:a_}:∀(cs:List C)(ex:EX)(cc:CC)(X:Cx),@Good ex kk X cc G->∀c∈cs,∀e,cg cc c e=true->PE X e (@tE ex X.K (ev G c))
 | [],ex,cc,X,g,c,hc,e,h=>by cases hc
 | c::cs,ex,cc,X,g,c',hc,e,h=>by
  rcases bT.mp hc with z | z
  ·rw[z]at h⊢;exact bx c ex cc X e g h
  ·exact rC cs ex cc X g c' z e h
theorem C1{kk:Nat}{G:a_}:∀(ts:List eN)(ex:EX)(cc:CC)(X:Cx),@Good ex kk X cc G->∀t∈ts,∀e,lb cc t e=true->PT X e (@oH ex X.K (d_ G t))
 | [],ex,cc,X,g,c,hc,e,h=>by cases hc
 | c::cs,ex,cc,X,g,c',hc,e,h=>by
  rcases bT.mp hc with z | z
  ·rw[z]at h⊢;exact zV c ex cc X e g h
  ·exact C1 cs ex cc X g c' z e h
theorem Qm{kk:Nat}{G:a_}:∀(o:Option C)(ex:EX)(cc:CC)(X:Cx)(e:Option Expr),@Good ex kk X cc G->Le cc o e=true->PO X e (@tO ex X.K (sE G o))
 | none,ex,cc,X,none,g,h=>Lj
 | none,ex,cc,X,some _,g,h=>by cases h
 | some _,ex,cc,X,none,g,h=>by cases h
 | some c,ex,cc,X,some e,g,h=>Lk (bx c ex cc X e g h)
theorem GL{kk:Nat}{G:a_}:∀(o:Option eN)(ex:EX)(cc:CC)(X:Cx),@Good ex kk X cc G->∀t,o=some t->∀e,lb cc t e=true->PT X e (@oH ex X.K (d_ G t))
 | none,ex,cc,X,g,t,ht,e,h=>by cases ht
 | some c,ex,cc,X,g,t,ht,e,h=>by cases ht;exact zV c ex cc X e g h
theorem wB{kk:Nat}{G:a_}:∀(dC:List C)(k:SK)(ex:EX)(cc:CC)(X:Cx)(t aK:Expr),@Good ex kk X cc G->rg cc k dC t aK=true->PI X t aK (@tI ex X.K (dM G k dC))/\fU aK=true
 | [],k,ex,cc,X,t,aK,g,h=>by cases k<;>cases h
 | [c],.seq,ex,cc,X,t,aK,g,h=>by
  have h':(fU aK&&cg cc c aK)=true:=h;simp only[aR]at h';exact⟨GJ (bx c ex cc X aK g h'.2),h'.1⟩
 | [c],.vals,ex,cc,X,t,aK,g,h=>by cases h
 | [c],.keys,ex,cc,X,t,aK,g,h=>by cases h
 | [c],.fT,ex,cc,X,t,aK,g,h=>by
  refine e8 (P:=λaK=>PI X t aK _/\fU aK=true) h λfe args jZ pos h=>bY (P:=λfe=>PI X t (.Call fe args jZ pos) _/\fU (.Call fe args jZ pos)=true) h λx p h=>?_;rcases args with _|⟨a,_|⟨a2,as⟩⟩<;>first | exact absurd h aY | skip
  cases jZ<;>first | exact absurd h aY | skip
  simp only[aR]at h;exact⟨CU g (eq_of_beq h.1.1.1) h.1.1.2 h.1.2 (bx c ex cc X a g h.2),rfl⟩
 | [c],.enum,ex,cc,X,t,aK,g,h=>by
  refine e8 (P:=λaK=>PI X t aK _/\fU aK=true) h λfe args jZ pos h=>bY (P:=λfe=>PI X t (.Call fe args jZ pos) _/\fU (.Call fe args jZ pos)=true) h λx p h=>?_;rcases args with _|⟨a,_|⟨a2,as⟩⟩<;>first | exact absurd h aY | skip
  cases jZ<;>first | exact absurd h aY | skip
  simp only[aR]at h;exact⟨CV g (eq_of_beq h.1.1.1.1) h.1.1.1.2 h.1.1.2 h.1.2 (bx c ex cc X a g h.2),rfl⟩
 | [c],.Cj,ex,cc,X,t,aK,g,h=>by cases h
 | [c],.zip,ex,cc,X,t,aK,g,h=>by cases h
 | [c],.Gb,ex,cc,X,t,aK,g,h=>by cases h
 | [c,d],.Cj,ex,cc,X,t,aK,g,h=>by cases h
 | [c,d],.seq,ex,cc,X,t,aK,g,h=>by cases h
 | [c,d],.Gb,ex,cc,X,t,aK,g,h=>by cases h
 | [c,d],.keys,ex,cc,X,t,aK,g,h=>by cases h
 | [c,d],.vals,ex,cc,X,t,aK,g,h=>by cases h
 | [c,d],.fT,ex,cc,X,t,aK,g,h=>by cases h
 | [c,d],.enum,ex,cc,X,t,aK,g,h=>by cases h
 | [c,d],.zip,ex,cc,X,t,aK,g,h=>by cases h
 | [c,d,m],.Gb,ex,cc,X,t,aK,g,h=>by cases h
 | [c,d,m],.seq,ex,cc,X,t,aK,g,h=>by cases h
 | [c,d,m],.keys,ex,cc,X,t,aK,g,h=>by cases h
 | [c,d,m],.vals,ex,cc,X,t,aK,g,h=>by cases h
 | [c,d,m],.fT,ex,cc,X,t,aK,g,h=>by cases h
 | [c,d,m],.Cj,ex,cc,X,t,aK,g,h=>by cases h
 | [c,d,m],.enum,ex,cc,X,t,aK,g,h=>by cases h
 | [c,d,m],.zip,ex,cc,X,t,aK,g,h=>by cases h
 | _::_::_::_::_,k,ex,cc,X,t,aK,g,h=>by cases k<;>cases h
end
section
variable [EX]
inductive S where
 | asg (tg:List Nat) (c:C)
 | jt (i:Nat) (c:C)
 | put (o i v:C)
 | dput (o i v:C)
 | par (i j:Nat) (a b:C)
 | expr (c:C)
 | ret (c:C)
 | C2
 | iff (t:eN) (a b:List S)
 | dD (tg:List Nat) (k:SK) (dC:List C) (b:List S)
 | Lq (n:Nat) (t:eN) (b:List S)
 | Ay (a:Addr) (f:Str) (c:C)
 | never | pass | brk | cont
inductive ba where
 | nx (ρ:En) (M:ag) | rt (w:W) (M:ag) | bk (ρ:En) (M:ag) | ct (ρ:En) (M:ag) | er (x:vX) (M:ag) | af
noncomputable def ba.gK{α:Type}(o:bS α)(f:α->ag->ba):ba:=match o with
 | .ok a M=>f a M
 | .err x M=>.er x M
 | .af=>.af
noncomputable def ba.seq(o:ba)(f:En->ag->ba):ba:=match o with
 | .nx ρ M=>f ρ M
 | o=>o
def dq(body:En->ag->ba)(it:Ev.It)(tg:List Nat):Nat->Nat->En->ag->ba
 | 0,i,ρ,M=>match itemAt M i it with
  | some none=>.nx ρ M
  | _=>.af
 | f+1,i,ρ,M=>match itemAt M i it with
  | some none=>.nx ρ M
  | some (some d)=>match bH tg d ρ with
   | none=>.af
   | some ρ=>match body ρ M with
    | .nx ρ M=>dq body it tg f (i+1) ρ M
    | .ct ρ M=>dq body it tg f (i+1) ρ M
    | .bk ρ M=>.nx ρ M
    | .rt w M=>.rt w M
    | .er x M=>.er x M
    | .af=>.af
  | none=>.af
noncomputable def zW(Lr:En->ag->bS Bool)(body:En->ag->ba):Nat->En->ag->ba
  | 0,_,_=>.af
  | f+1,ρ,M=>match Lr ρ M with
    | .ok r M => if r then (match body ρ M with
        | .nx ρ M=>zW Lr body f ρ M
        | .ct ρ M=>zW Lr body f ρ M
        | .bk ρ M=>.nx ρ M
        | .rt w M=>.rt w M
        | .er x M=>.er x M
        | .af=>.af) else .nx ρ M
    | .err x M=>.er x M
    | .af=>.af
mutual
noncomputable def ju(G:a_):S->En->ag->ba
 | .asg tg c,ρ,M=>ba.gK ((ev G c ρ M).bind own) λd M=>match bH tg d ρ with
  | some ρ=>.nx ρ M
  | none=>.af
 | .jt i c,ρ,M=>ba.gK ((ev G c ρ M).bind own) λd M=>.nx (ρ.set i (some d)) M
 | .put o i v,ρ,M=>ba.gK ((ev G v ρ M).bind own) λd M=>ba.gK (ev G o ρ M) λx M=>ba.gK (ev G i ρ M) λy M=>ba.gK (ic x y d M) λ_ M=>.nx ρ M
 | .dput o i v,ρ,M=>ba.gK ((ev G v ρ M).bind own) λd M=>ba.gK (ev G o ρ M) λx M=>ba.gK (ev G i ρ M) λy M=>ba.gK (xS x y d M) λ_ M=>.nx ρ M
 | .par i j a b,ρ,M=>ba.gK (bB G [a,b] ρ M) λds M=>match ds with
  | [x,y]=>.nx ((ρ.set i (some x)).set j (some y)) M
  | _=>.af
 | .expr c,ρ,M=>ba.gK (ev G c ρ M) λ_ M=>.nx ρ M
 | .ret c,ρ,M=>ba.gK (ev G c ρ M) λw M=>.rt w M
 | .C2,_,M=>.rt (.d .aL) M
 | .iff t a b,ρ,M=>ba.gK (d_ G t ρ M) λr M=>if r then cH G a ρ M else cH G b ρ M
 | .dD tg k dC b,ρ,M=>ba.gK (dM G k dC ρ M) λit M=>dq (λρ M=>cH G b ρ M) it tg (dj M it) 0 ρ M
 | .Lq n t b,ρ,M=>zW (λρ M=>d_ G t ρ M) (λρ M=>cH G b ρ M) n ρ M
 | .Ay a f c,ρ,M=>ba.gK (bB G [c] ρ M) λds M=>match ds with
  | [d]=>.er ⟨a,[(f,d)]⟩ M
  | _=>.af
 | .never,_,_=>.af
 | .pass,ρ,M=>.nx ρ M
 | .brk,ρ,M=>.bk ρ M
 | .cont,ρ,M=>.ct ρ M
noncomputable def cH(G:a_):List S->En->ag->ba
 | [],ρ,M=>.nx ρ M
 | s::ss,ρ,M=>(ju G s ρ M).seq λρ M=>cH G ss ρ M
end
section
variable {G:a_} {lo hi:Option C} {cond:Option eN}
theorem yh : ju G (.asg tg c) ρ M = (ba.gK ((ev G c ρ M).bind own) fun d M => match bH tg d ρ with
    | some ρ=>.nx ρ M
    | none=>.af):=rfl
theorem uh:ju G (.jt i c) ρ M=ba.gK ((ev G c ρ M).bind own) λd M=>.nx (ρ.set i (some d)) M:=rfl
theorem yi:ju G (.put o i v) ρ M=ba.gK ((ev G v ρ M).bind own) λd M=>ba.gK (ev G o ρ M) λx M=>ba.gK (ev G i ρ M) λy M=>ba.gK (ic x y d M) λ_ M=>.nx ρ M:=rfl
theorem C3:ju G (.dput o i v) ρ M=ba.gK ((ev G v ρ M).bind own) λd M=>ba.gK (ev G o ρ M) λx M=>ba.gK (ev G i ρ M) λy M=>ba.gK (xS x y d M) λ_ M=>.nx ρ M:=rfl
theorem GN : ju G (.par i j a b) ρ M = (ba.gK (bB G [a, b] ρ M) fun ds M => match ds with
    | [x,y]=>.nx ((ρ.set i (some x)).set j (some y)) M
    | _=>.af):=rfl
theorem ui:ju G (.expr c) ρ M=ba.gK (ev G c ρ M) λ_ M=>.nx ρ M:=rfl
theorem yj:ju G (.ret c) ρ M=ba.gK (ev G c ρ M) λw M=>.rt w M:=rfl
theorem yk:ju G (.iff t a b) ρ M=ba.gK (d_ G t ρ M) λr M=>if r then cH G a ρ M else cH G b ρ M:=rfl
theorem uj:ju G (.dD tg k dC b) ρ M=ba.gK (dM G k dC ρ M) λit M=>dq (λρ M=>cH G b ρ M) it tg (dj M it) 0 ρ M:=rfl
theorem GO:ju G (.Lq n t b) ρ M=zW (λρ M=>d_ G t ρ M) (λρ M=>cH G b ρ M) n ρ M:=rfl
theorem ym : ju G (.Ay a f c) ρ M = (ba.gK (bB G [c] ρ M) fun ds M => match ds with
    | [d]=>.er ⟨a,[(f,d)]⟩ M
    | _=>.af):=rfl
theorem um:cH G [] ρ M=.nx ρ M:=rfl
theorem pR:cH G (s::ss) ρ M=(ju G s ρ M).seq λρ M=>cH G ss ρ M:=rfl
end
noncomputable def fm(e:Expr):Bool:=Nat.beq e.ctorIdx 8||(Nat.beq e.ctorIdx 9||Nat.beq e.ctorIdx 10)
def IB(cc:CC)(t v:Expr):Bool:=(!fm v && !(iC t&&iC v))||eE t λx _=>cc.names.lookup x==some .cell
mutual
noncomputable def Ls(cc:CC):S->Stmt->Bool
 | .asg tg c,s=>ig s λts v _=>match ts with
  | [t]=>iV cc tg t&&IB cc t v&&(!fm v||Nat.beq v.ctorIdx 8)&&cg cc c v
  | _=>false
 | .jt i c,s=>ig s λts v _=>match ts with
  | [t]=>eE t λx p=>gG v λel gens sc q=>cc.N[i]? == some x&&cc.names.lookup x==some .local&&p.line==q.line && !(sc.names.any λ(n,k)=>n==x&&(k == .local||k == .cell))&&cg cc c (.ListComp el gens sc q)
  | _=>false
 | .put o i v,s=>ig s λts w _=>match ts with
  | [t]=>dJ t λe f _=>jW f&&cg cc o e&&cg cc i f&&cg cc v w
  | _=>false
 | .dput o i v,s=>false
 | .par i j a b,s=>false
 | .expr c,s=>wk s λe _=>!fm e&&cg cc c e
 | .ret c,s=>jV s λo _=>match o with
  | some e=>cg cc c e
  | none=>false
 | .C2,s=>jV s λo _=>o.isNone
 | .iff t a b,s=>Lb s λc x y _=>lb cc t c&&iW cc a x&&iW cc b y
 | .dD tg k dC b,s=>CF s λt aK body Xc _=>Xc.isEmpty&&rg cc k dC t aK&&iV cc tg t&&iW cc b body
 | .Lq _ t b,s=>false
 | .Ay a f c,s=>qZ s λe k _=>k.isNone&&(match e with
  | some e=>gI e λfe args jZ _=>jZ.isEmpty&&(eE fe λx _=>glob cc x&&cL x&&cc.xs.lookup x==some (a,f))&&cq cc [c] args
  | none=>false)
 | .never,_=>true
 | .pass,s=>wm s λ_=>true
 | .brk,s=>q_ s λ_=>true
 | .cont,s=>jq s λ_=>true
noncomputable def iW(cc:CC):List S->List Stmt->Bool
 | [],[]=>true
 | s::ss,t::ts=>Ls cc s t&&iW cc ss ts
 | _,_=>false
end
def pS(K:Frag)(ads:List Addr)(H:Hp)(D:Ends):ba->Prop
 | .nx ρ M=>∀cY H' ar,ay ads ar H H'->SR K ar M ρ cY H'->D.nx cY H'
 | .bk ρ M=>∀cY H' ar,ay ads ar H H'->SR K ar M ρ cY H'->D.bk cY H'
 | .ct ρ M=>∀cY H' ar,ay ads ar H H'->SR K ar M ρ cY H'->D.ct cY H'
 | .rt w M=>lG K ads H w M D.rt
 | .er x M=>EX.post K ads H x M
 | .af=>False
def sF(K:Frag)(o:En->ag->ba):TS:=λD σ H=>∃ads M ρ,SR K ads M ρ σ H/\pS K ads H D (o ρ M)
theorem pS.shift{K:Frag}{ads ar:List Addr}{H H':Hp}{M M2:ag}{D:Ends}{o:ba}(p:pS K ads H D o)(g:ay ads ar H H')(m:aU K ads H M)(m':aU K ar H' M2):pS K ar H' D o:=by
 cases o with
 | nx ρ M=>exact λσ H1 ai g1 s1=>p σ H1 ai (g.trans g1) s1
 | bk ρ M=>exact λσ H1 ai g1 s1=>p σ H1 ai (g.trans g1) s1
 | ct ρ M=>exact λσ H1 ai g1 s1=>p σ H1 ai (g.trans g1) s1
 | rt w M=>exact lG.shift p g m m'
 | er x M=>exact EX.shift p g
 | af=>exact p
theorem zX{X:Cx}{st:Stmt}{t u:TS}(h:PS X st t)(f:∀D σ H,u D σ H->t D σ H):PS X st u:=λae s σ H D I q=>h ae s σ H D I (f D σ H q)
theorem Qn{X:Cx}{st:List Stmt}{t u:TS}(h:pe X st t)(f:∀D σ H,u D σ H->t D σ H):pe X st u:=λae s σ H D I q=>h ae s σ H D I (f D σ H q)
section
variable {kk:Nat} {X:Cx} {cc:CC} {G:a_}
theorem rD{e:Expr}(h:fm e=false)(t:Option Expr)(l:Nat)(env:Env):swapsWith e t l env=pure false:=by
 cases e<;>first | rfl | exact absurd (show true=false from h).symm aY
theorem Qo{K:Frag}{o:En->ag->ba}{k:En->ag->ba}{σ:L2.St}{H:Hp}{D:Ends}(h:sF K (λρ M=>(o ρ M).seq k) D σ H):OO (sF K o) (sF K k) D σ H:=by
 obtain⟨ads,M,ρ,s,q⟩:=h;have q:pS K ads H D ((o ρ M).seq k):=q;refine⟨ads,M,ρ,s,?_⟩
 cases hq:o ρ M with
 | nx NR M1 =>
  rw[hq]at q;intro WB H1 ai g1 s1;exact⟨ai,M1,NR,s1,pS.shift (o:=k NR M1) q g1 s.mem s1.mem⟩
 | bk ρ M=>rw[hq]at q;exact q
 | ct ρ M=>rw[hq]at q;exact q
 | rt w M=>rw[hq]at q;exact q
 | er x M=>rw[hq]at q;exact q
 | af=>rw[hq]at q;exact q
theorem GP {K : Frag} {body : En -> ag -> ba} {it : Ev.It} {J : L2.It} {tg : List Nat} {tb : TS} (hb : ∀ D σ H, sF K body D σ H -> tb D σ H) {ads : List Addr} {M : ag} {ρ : En} {σ : L2.St} {H : Hp} {D : Ends} {f : Nat}
    (s:SR K ads M ρ σ H) (hJ:Es K ads H it J) (q:pS K ads H D (dq body it tg f 0 ρ M)) :
    ∃W:Nat->Nat->L2.St->Hp->Prop,(∃m,W 0 m σ H)/\∀i m σ H,W i m σ H ->
      (J.stop i H/\D.nx σ H)\/(J.go i H/\∃N:L2.St->Hp->Prop,(∀cY H',N cY H'->∃m',m'<m/\W (i+1) m' cY H')/\∀x H',J.NB i H x H'->tG K tg x σ H' λFe H2=>tb {D with nx:=N,ct:=N,bk:=D.nx} Fe H2):=by
  refine⟨λi m cY H'=>∃ar M' eg,SR K ar M' eg cY H'/\ay ads ar H H'/\pS K ads H D (dq body it tg m i eg M'),⟨f,ads,M,ρ,s,ay.refl _ _,q⟩,?_⟩;rintro i m cY H' ⟨ar,M',eg,s',g',q'⟩;obtain⟨r1,r2⟩:=hJ i ar H' M' g' s'.mem
  cases m with
  | zero =>
    unfold dq at q';split at q'
    · rename_i hi
      exact .inl ⟨r1 hi,q' cY H' ar g' s'⟩
    · exact q'.elim
  | succ m =>
    unfold dq at q';split at q'
    · rename_i hi
      exact .inl ⟨r1 hi,q' cY H' ar g' s'⟩
    · rename_i d hi
      obtain⟨go,yl⟩:=r2 d hi
      cases B8:bH tg d eg with
      | none=>rw[B8]at q';exact q'.elim
      | some NR =>
        rw[B8]at q';dsimp only at q';refine .inr ⟨go,λFe H2=>∃bU M2 Lu,SR K bU M2 Lu Fe H2/\ay ads bU H H2/\pS K ads H D (dq body it tg m (i+1) Lu M2),λFe H2 h=>⟨m,EW _,h⟩,λx H2 y=>?_⟩;obtain⟨g2,m2,rd⟩:=yl x H2 y;refine⟨ar,M',eg,d,s'.grow g2 m2,rd,NR,B8,λFe s2=>hb _ _ _ ⟨ar,M',NR,s2,?_⟩⟩;have gg:=g'.trans g2
        cases hq:body NR M' with
        | nx SA M3=>rw[hq]at q';exact λFg H3 d5 g3 s3=>⟨d5,M3,SA,s3,gg.trans g3,q'⟩
        | ct SA M3=>rw[hq]at q';exact λFg H3 d5 g3 s3=>⟨d5,M3,SA,s3,gg.trans g3,q'⟩
        | bk SA M3=>rw[hq]at q';exact λFg H3 d5 g3 s3=>q' Fg H3 d5 (gg.trans g3) s3
        | rt w M3=>rw[hq]at q';exact lG.shift (M:=M) (M2:=M') q' gg s.mem s2.mem
        | er x M3=>rw[hq]at q';exact EX.shift (show EX.post K ads H _ _ from q') gg
        | af=>rw[hq]at q';exact q'.elim
    · exact q'.elim
theorem Vm{K:Frag}{ads:List Addr}{M:ag}{ρ:En}{σ:L2.St}{H:Hp}{D:Ends}{o:En->ag->bS W}{k:W->ag->ba}{R:V->Hp->Prop}(s:SR K ads M ρ σ H)(q:pS K ads H D (ba.gK (o ρ M) k))(hk:∀w M1 v H1 ai,SR K ai M1 ρ σ H1->RW K ai H1 w v->pS K ai H1 D (k w M1)->R v H1):tE K o σ H R:=by
 refine⟨ads,M,ρ,s,?_⟩
 cases hq:o ρ M with
 | ok w M1 =>
  rw[hq]at q;intro v H1 ai g1 m1 r1;exact hk w M1 v H1 ai (s.grow g1 m1) r1.rw (pS.shift (o:=k w M1) q g1 s.mem m1)
 | err _ _=>rw[hq]at q;exact q
 | af=>rw[hq]at q;exact q
theorem Lv{K:Frag}{ads:List Addr}{M:ag}{ρ:En}{σ:L2.St}{H:Hp}{D:Ends}{c:C}{k:Ev.D->ag->ba}{R:V->Hp->Prop}(s:SR K ads M ρ σ H)(q:pS K ads H D (ba.gK ((ev G c ρ M).bind own) k))(hk:∀(d:Ev.D) M1 v H1 ai,SR K ai M1 ρ σ H1->RD K ai H1 d v->pS K ai H1 D (k d M1)->R v H1):tE K (ev G c) σ H R:=by
 refine⟨ads,M,ρ,s,?_⟩
 cases hq:ev G c ρ M with
 | ok w M1 =>
  rw[hq]at q;intro v H1 ai g1 m1 r1;have q:pS K ads H D (ba.gK (own w M1) k):=q
  cases ho:own w M1 with
  | ok d M2 =>
   rw[ho]at q;obtain⟨bU,g2,m2,rd⟩:=nH s.mem g1 m1 r1 ho;exact hk d M2 v H1 bU (s.grow g2 m2) rd (pS.shift (o:=k d M2) q g2 s.mem m2)
  | err _ _=>cases w<;>cases ho
  | af=>cases w<;>cases ho
 | err _ _=>rw[hq]at q;exact q
 | af=>rw[hq]at q;exact q
theorem GQ{tg:List Nat}{t:Expr}(h:iV cc tg t=true):(∃x p,t=.Name x p)\/∃es k p,t=.Tuple es k p:=by
 rcases tg with _|⟨i,_|⟨j,r⟩⟩
 ·exact absurd h aY
 ·exact .inl (bY (P:=λt=>∃x p,t=.Name x p) ((aR _ _).mp h).1 λx p _=>⟨x,p,rfl⟩)
 ·exact .inr (jo (P:=λt=>∃es k p,t=.Tuple es k p) h λes k p _=>⟨es,k,p,rfl⟩)
theorem pT{el:Expr}{gens:List Comprehension}{sc:Scope}{q p:Pos}{x:Str}{l:Nat}{env:Env}:swapsWith (.ListComp el gens sc q) (some (.Name x p)) l env=pure (env.blockKind == .function&&env.kindOf x==some .local&&p.line==q.line && !(sc.names.any λ(n,k)=>n==x&&(k == .local||k == .cell))):=rfl
theorem Qp{tg:List Nat}{c:C}{t v:Expr}{pos:Pos}(g:Good kk X cc G)(ht:iV cc tg t=true)(hv:IB cc t v=true)(ZU:fm v=true->∃el gens sc q,v=.ListComp el gens sc q)(he:PE X v (tE X.K (ev G c))):PS X (.Assign [t] v pos) (sF X.K (ju G (.asg tg c))):=by
 have hg:=j7 g ht
 have pF:∀D σ H,sF X.K (ju G (.asg tg c)) D σ H->Fc (tE X.K (ev G c)) (tG X.K tg) D σ H:=by
  intro D σ H q;obtain⟨ads,M,ρ,s,q⟩:=q;refine Lv s (by simp only[yh]at q;exact q) λd M1 v H1 ai s1 rd q1=>?_
  cases hb:bH tg d ρ with
  | none=>simp only[hb]at q1;exact q1.elim
  | some eg =>
   simp only[hb]at q1;exact⟨ai,M1,ρ,d,s1,rd,eg,hb,λcY s'=>q1 cY H1 ai (ay.refl _ _) s'⟩
 rcases GQ ht with⟨x,p,rfl⟩|⟨es,k,p,rfl⟩
 ·refine zX (vE he hg ?_ (by unfold swappedStores;cases v<;>rfl) rfl) pF;show swapsWith v (some (.Name x p)) pos.line X.env=pure false
  cases hc:fm v with
  | false=>exact rD hc _ _ _
  | true =>
   have hv:((!fm v && !(false&&iC v))||(cc.names.lookup x==some .cell))=true:=hv;rw[hc]at hv;have hk:X.env.kindOf x=some .cell:=g.kinds x .cell (by simpa using hv);obtain⟨el,gens,sc,q,rfl⟩:=ZU hc;rw[pT,hk,show((some NameKind.cell:Option NameKind)==some NameKind.local)=false from rfl];simp
 ·have Vn:((!fm v && !(true&&iC v))||false)=true:=hv;simp only[Bool.or_false,E1,aR,i4]at Vn;refine zX (vE he hg (show swapsWithSole [.Tuple es k p] v pos.line X.env=pure false from rD Vn.1 (some (.Tuple es k p)) pos.line X.env) ?_ rfl) pF;unfold swappedStores;cases v<;>first | rfl | exact absurd (show true=false from Vn.2).symm aY
theorem Lw{i:Nat}{c:C}{x:Str}{p q pos:Pos}{el t aK:Expr}{ifs:List Expr}{sc:Scope}{N':List Str}{cO:List (Option Nat)}{wi:TI}{gt:TG}{tc:Option TT}{te:TE}(g:Good kk X cc G)(hk:X.env.blockKind=.function)(hx:cc.N[i]?=some x)(hl:cc.names.lookup x=some .local)(hp:p.line=q.line)(hn:(sc.names.any λ(n,k)=>n==x&&(k == .local||k == .cell))=false)(hw:∀(ae:List (Addr×Obj))(s:Shared)(σ:L2.St)(H:Hp),Inv X ae σ H s->∃cl,PI X t aK wi/\kS X sc N' cO cl t el ifs gt tc te)(Vo:∀x,foldedSetIterable aK X.env x=pure x)(pF:∀σ H Q,tE X.K (ev G c) σ H Q->xM cO wi gt tc te σ H Q):PS X (.Assign [.Name x p] (.ListComp el [⟨t,aK,ifs,0⟩] sc q) pos) (sF X.K (ju G (.jt i c))):=by
 intro ae s σ H D I h;obtain⟨cl,hi,ck⟩:=hw ae s σ H I;refine FW (i:=i) g.calm (by rw[g.N];exact g.nd) (by rw[g.N];exact hx) (g.kinds x _ hl) ?_ hi ck Vo ae s σ H D I ?_
 ·rw[pT,hk,show X.env.kindOf x=some .local from g.kinds x _ hl,hn,hp];simp
 ·obtain⟨ads,M,ρ,sr,h⟩:=h;refine pF σ H _ (Lv sr (by simp only[uh]at h;exact h) λd M1 v H1 ai s1 rd q1=>?_);exact q1 _ H1 ai (ay.refl _ _) (s1.set i rd)
theorem Qq{o i v:C}{e f w:Expr}{sp pos:Pos}(g:Good kk X cc G)(hf:jW f=true)(ho:PE X e (tE X.K (ev G o)))(hi:PE X f (tE X.K (ev G i)))(hv:PE X w (tE X.K (ev G v))):PS X (.Assign [.Subscript e f sp] w pos) (sF X.K (ju G (.put o i v))):=by
 have Sr:=g.room.un;refine zX (vE hv (JY ho hi (La ∅) (by intro _;cases f<;>first | rfl | exact absurd (show false=true from hf) aY)) (show swapsWithSole [.Subscript e f sp] w pos.line X.env=pure false from (by cases w<;>rfl)) (by unfold swappedStores;cases w<;>rfl) rfl) λD σ H q=>?_;obtain⟨ads,M,ρ,s,q⟩:=q;refine Lv s (by simp only[yi]at q;exact q) λd M1 v H1 ai s1 rd q1=>?_;refine⟨ai,M1,ρ,s1,?_⟩
 cases h2:ev G o ρ M1 with
 | ok wo M2 =>
  rw[h2]at q1;intro vo H2 bU g2 m2 ro;have s2:=s1.grow g2 m2;refine⟨bU,M2,ρ,s2,?_⟩;have q2:pS X.K ai H1 D (ba.gK (ev G i ρ M2) λy M=>ba.gK (ic wo y d M) λ_ M=>.nx ρ M):=q1
  cases h3:ev G i ρ M2 with
  | ok wi M3 =>
   rw[h3]at q2;intro vi H3 d5 g3 m3 ri;have s3:=s2.grow g3 m3;have q3:pS X.K ai H1 D (ba.gK (ic wo wi d M3) λ_ M=>.nx ρ M):=q2;refine⟨d5,M3,wo,wi,d,m3,g3.rw ro.rw,ri.rw,(g2.trans g3).rd _ _ rd,?_⟩
   cases h4:ic wo wi d M3 with
   | ok u M4 =>
    rw[h4]at q3;intro H4 GC g4 m4;exact q3 σ H4 GC ((g2.trans g3).trans g4) (s3.grow g4 m4)
   | err _ _=>rw[h4]at q3;exact EX.shift (show EX.post X.K ai H1 _ _ from q3) (g2.trans g3)
   | af=>rw[h4]at q3;exact q3
  | err _ _=>rw[h3]at q2;exact EX.shift (show EX.post X.K ai H1 _ _ from q2) g2
  | af=>rw[h3]at q2;exact q2
 | err _ _=>rw[h2]at q1;exact q1
 | af=>rw[h2]at q1;exact q1
theorem Lx{c:C}{e:Expr}{pos:Pos}(hc:fm e=false)(he:PE X e (tE X.K (ev G c))):PS X (.Expr e pos) (sF X.K (ju G (.expr c))):=by
 refine zX (E8 he (rD hc _ _ _)) λD σ H q=>?_;obtain⟨ads,M,ρ,s,q⟩:=q;exact Vm (k:=λ_ M=>.nx ρ M) s (by simp only[ui]at q;exact q) λw M1 v H1 ai s1 r1 q1=>q1 σ H1 ai (ay.refl _ _) s1
theorem Qr{c:C}{e:Expr}{pos:Pos}(he:PE X e (tE X.K (ev G c))):PS X (.Return (some e) pos) (sF X.K (ju G (.ret c))):=by
 refine zX (Bo he) λD σ H q=>?_;obtain⟨ads,M,ρ,s,q⟩:=q;refine⟨ads,M,ρ,s,?_⟩;simp only[yj]at q
 cases hq:ev G c ρ M with
 | ok w M1=>rw[hq]at q;exact q
 | err _ _=>rw[hq]at q;exact q
 | af=>rw[hq]at q;exact q
theorem Vp{t:eN}{a b:List S}{c:Expr}{x y:List Stmt}{pos:Pos}(ht:PT X c (oH X.K (d_ G t)))(ha:pe X x (sF X.K (cH G a)))(hb:pe X y (sF X.K (cH G b))):PS X (.If c x y pos) (sF X.K (ju G (.iff t a b))):=by
 refine zX (Bp ht ha hb) λD σ H q=>?_;obtain⟨ads,M,ρ,s,q⟩:=q;refine⟨ads,M,ρ,s,?_⟩;simp only[yk]at q
 cases hq:d_ G t ρ M with
 | ok r M1 =>
  rw[hq]at q;intro H1 ai g1 m1;have q:pS X.K ads H D (if r then cH G a ρ M1 else cH G b ρ M1):=q;have q:=q.shift g1 s.mem m1
  cases r with
  | true=>rw[aF rfl]at q⊢;exact⟨ai,M1,ρ,s.grow g1 m1,q⟩
  | false=>rw[aP (by simp)]at q⊢;exact⟨ai,M1,ρ,s.grow g1 m1,q⟩
 | err _ _=>rw[hq]at q;exact q
 | af=>rw[hq]at q;exact q
theorem Qs{tg:List Nat}{k:SK}{dC:List C}{b:List S}{t aK:Expr}{body:List Stmt}{pos:Pos}(g:Good kk X cc G)(hx:PassesOwn (model X.prog X.w) X.A X.env X.xe)(hs:PI X t aK (tI X.K (dM G k dC)))(hn:fU aK=true)(ht:iV cc tg t=true)(hb:pe X body (sF X.K (cH G b))):PS X (.For t aK body [] pos) (sF X.K (ju G (.dD tg k dC b))):=by
 refine zX (JZ hx g.calm hs (j7 g ht) hb (rB hn X.env)) λD σ H q=>?_;obtain⟨ads,M,ρ,s,q⟩:=q;refine⟨ads,M,ρ,s,?_⟩;simp only[uj]at q
 cases hq:dM G k dC ρ M with
 | ok it M1 =>
  rw[hq]at q;intro J H1 ai g1 m1 rj;exact GP (λD σ H h=>h) (s.grow g1 m1) rj (pS.shift (o:=dq (λρ M=>cH G b ρ M) it tg (dj M1 it) 0 ρ M1) q g1 s.mem m1)
 | err _ _=>rw[hq]at q;exact q
 | af=>rw[hq]at q;exact q
end
section
variable {kk:Nat} {X:Cx} {cc:CC} {G:a_}
def Qt(kk:Nat)(X:Cx)(xs:List (Str×Addr×Str)):Prop:=∀(x:Str)(a:Addr)(f:Str),xs.lookup x=some (a,f)->∃D fI fd sf oI j,j+1<=kk/\sD X.K a D fI f/\X.K.lookup fI=some oI/\oI.cls=.type "function" /\ dQ X.prog X.w X.K X.mg X.base Ig j fI fd [sf,f] (KH X.K a D fI f)/\Binds X.K fd [sf,f] []/\X.mg x=some (.ref a)
theorem Qu{a:Addr}{f x:Str}{c:C}{e:Expr}{np cS pos:Pos}{E:XK}(g:Good kk X cc G)(p:pJ X E)(im:∀{K:Frag}{ads:List Addr}{H:Hp}{x:vX}{M:ag},EX.post K ads H x M->(vY E).post K ads H x M)(hd:X.A.handled=none)(Vq:Qt kk X cc.xs)(hg:glob cc x=true)(hp:cL x=true)(hl:cc.xs.lookup x=some (a,f))(fO:aX e=true)(ha:PA X [e] (Eo X.K (bB G [c]))):PS X (.Raise (some (.Call (.Name x np) [e] [] cS)) none pos) (sF X.K (ju G (.Ay a f c))):=by
 obtain⟨D,fI,fd,sf,oI,j,hj,xi,lo,co,F,hb,hm⟩:=Vq x a f hl;refine zX (Ce p hd xi lo co F (g.room.mono hj) hb (g.gl hg) hm ha (cP fO [] X.env) (iE hp).1) λZ σ H q=>?_;obtain⟨ads,M,ρ,s,q⟩:=q;refine⟨ads,M,ρ,s,?_⟩;simp only[ym]at q
 cases hd:bB G [c] ρ M with
 | ok ds M1 =>
  rw[hd]at q;rcases ds with _|⟨d1,_|⟨d2,r⟩⟩<;>first | exact q.elim | skip
  intro vs H1 ai g1 m1 rd;unfold aV at rd;obtain⟨v,r1,rfl,h1,rd⟩:=rd;unfold aV at rd;subst rd;refine⟨v,rfl,λe dx n1 n2 ne=>?_⟩;have q:EX.post X.K ads H ⟨a,[(f,d1)]⟩ M1:=q;have g2:=ay.dR (o:=.xd [(f,v)]) m1 n2;have m2:=m1.dR (o:=.xd [(f,v)]) n2;have n3:bu H1 dx (.xd [(f,v)]) e=none:=by rw[aq (cN ne)];exact n1
  have g3:=ay.dR (o:=XO e a dx) m2 n3;have m3:=m2.dR (o:=XO e a dx) n3;refine im q _ ai dx [(f,v)] ((g1.trans g2).trans g3) m3 (by rw[aq ne];exact aS) ?_;unfold bW;exact⟨(f,v),[],rfl,rfl,(g2.trans g3).rd _ _ h1,by unfold bW;rfl⟩
 | err x M1=>rw[hd]at q;exact q
 | af=>rw[hd]at q;exact q.elim
end
end
section
variable [EX]
section
variable {kk:Nat} {G:a_} {X:Cx} {cc:CC}
theorem GR{tg:List Nat}{cond:Option eN}{elt:C}{cO:List (Option Nat)}{el t:Expr}{ifs:List Expr}{sc:Scope}(g:Good kk X cc G)(CZ:t_ cc sc=true)(BZ:cO=nF cc sc)(Vl:iV (pP cc sc) tg t=true)(j8:GA (pP cc sc) cond ifs=true)(Vr:cg (pP cc sc) elt el=true)(ae:List (Addr×Obj))(s:Shared)(σ:L2.St)(H:Hp)(I:Inv X ae σ H s):∃cl,kS X sc (eP sc) cO cl t el ifs (tG X.K tg) (cond.map λt=>@oH never X.K (d_ G t)) (@tE never X.K (ev G elt)):=by
 obtain⟨h1,h2,h3,h4,h5⟩:=mh CZ
 obtain⟨cl,Sz⟩:=yf (X:=X) (sc:=sc) λy hy hf=>by
  obtain⟨_,ho⟩:=h5 y hy hf;refine I.ok.has y.1 ?_;rcases ho with ho | ho
  ·exact .inl (g.kinds _ _ ho)
  ·exact g.kinds _ _ ho
 refine⟨cl,h1,h2,h3,Sz,BZ▸CW g CZ,λC s H fp=>(by have gb:=g.block (cl:=cl) CZ C s H fp;letI:=never;exact j7 gb Vl),?_,λC s H fp=>bx elt never (pP cc sc) _ el (g.block CZ C s H fp) Vr⟩
 cases cond with
 | none =>
  cases ifs with
  | nil=>rfl
  | cons _ _=>cases j8
 | some tt =>
  cases ifs with
  | nil=>cases j8
  | cons e es =>
   cases es with
   | cons _ _=>cases j8
   | nil=>exact⟨e,rfl,λC s H fp=>zV tt never (pP cc sc) (X.block sc cl C (eP sc) s H fp []) e (g.block CZ C s H fp) j8⟩
theorem GS{k:SK}{dC:List C}{tg:List Nat}{cond:Option eN}{elt:C}{cO:List (Option Nat)}(σ:L2.St)(H:Hp)(Q:VK)(q:tE X.K (ev G (.comp k dC tg cond elt cO)) σ H Q):xM cO (tI X.K (dM G k dC)) (tG X.K tg) (cond.map λt=>@oH never X.K (d_ G t)) (@tE never X.K (ev G elt)) σ H Q:=by
 obtain⟨ads,M,ρ,sr,q⟩:=q;refine⟨ads,M,ρ,sr,?_⟩
 have q:cC X.K ads H Q ((dM G k dC ρ M).bind λit M=>bc (λτ M=>bI G cond τ M) (λτ M=>(ev G elt τ M).bind own) it tg (dj M it) 0 (eT cO ρ) M []):=by
  simp only[qV]at q;unfold dM
  cases hw:dk G dC ρ M with
  | ok ws M1=>rw[hw]at q;exact q
  | err _ _=>rw[hw]at q;exact q
  | af=>rw[hw]at q;exact q
 cases hs:dM G k dC ρ M with
 | ok it M1 =>
  rw[hs]at q;intro J H1 ai g1 m1 rj;exact ug (sr.grow g1 m1) rj (cC.shift (o:=bc (λτ M=>bI G cond τ M) (λτ M=>(ev G elt τ M).bind own) it tg (dj M1 it) 0 (eT cO ρ) M1 []) q g1 sr.mem m1)
 | err _ _=>rw[hs]at q;exact q
 | af=>rw[hs]at q;exact q
structure C4 (kk:Nat) (X:Cx) (cc:CC) (G:a_):Prop where
 g:Good kk X cc G
 bk:X.env.blockKind=.function
 nx:PassesOwn (model X.prog X.w) X.A X.env X.xe
 xp:∃E:XK,pJ X E/\∀{K:Frag}{ads:List Addr}{H:Hp}{x:vX}{M:ag},EX.post K ads H x M->(vY E).post K ads H x M
 xs:Qt kk X cc.xs
theorem zY{v:Expr}(h:(!fm v||Nat.beq v.ctorIdx 8)=true)(hc:fm v=true):∃el gens sc q,v=.ListComp el gens sc q:=by
 rw[hc]at h;exact Expr.ListComp.elim (motive_1:=λv=>∃el gens sc q,v=.ListComp el gens sc q) v (Nat.eq_of_beq_eq_true h) λel gens sc q=>⟨el,gens,sc,q,rfl⟩
theorem Ly{c:C}{el:Expr}{gens:List Comprehension}{sc:Scope}{q:Pos}(h:cg cc c (.ListComp el gens sc q)=true):∃k dC tg cond elt cO,c=.comp k dC tg cond elt cO:=by
 cases c<;>first | exact absurd (show false=true from h) aY | exact⟨_,_,_,_,_,_,rfl⟩
end
mutual
theorem Vs{kk:Nat}{G:a_}:∀(s:S)(cc:CC)(X:Cx)(st:Stmt),C4 kk X cc G->Ls cc s st=true->PS X st (sF X.K (ju G s))
 | .asg tg c,cc,X,st,g,h=>ik (P:=λst=>PS X st _) h λts v pos h=>by
  rcases ts with _|⟨t,_|⟨_,_⟩⟩<;>first | exact absurd h aY | skip
  simp only[aR]at h;exact Qp g.g h.1.1.1 h.1.1.2 (zY h.1.2) (bx c _ cc X v g.g h.2)
 | .jt i c,cc,X,st,g,h=>ik (P:=λst=>PS X st _) h λts v pos h=>by
  rcases ts with _|⟨t,_|⟨_,_⟩⟩<;>first | exact absurd h aY | skip
  refine bY (P:=λt=>PS X (.Assign [t] v pos) _) h λx p h=>iU (P:=λv=>PS X (.Assign [.Name x p] v pos) _) h λel gens sc q h=>?_;simp only[aR,i4]at h;obtain⟨⟨⟨⟨h1,h2⟩,h3⟩,h4⟩,h5⟩:=h;obtain⟨k,dC,tg,cond,elt,cO,rfl⟩:=Ly h5;rcases gens with _|⟨⟨t,aK,ifs,as⟩,_|⟨_,_⟩⟩<;>first | exact absurd (show false=true from h5) aY | skip
  have h6:(as==0&&t_ cc sc&&decide (cO=nF cc sc)&&rg cc k dC t aK&&iV (pP cc sc) tg t&&GA (pP cc sc) cond ifs&&cg (pP cc sc) elt el)=true:=h5;simp only[aR,iI,qj]at h6;obtain⟨⟨⟨⟨⟨⟨rfl,k1⟩,k2⟩,k3⟩,k4⟩,k5⟩,k6⟩:=h6;obtain⟨C0,kC⟩:=wB dC k _ cc X t aK g.g k3
  exact Lw g.g g.bk (eq_of_beq h1) (eq_of_beq h2) (eq_of_beq h3) h4 (λae s σ H I=>by
   obtain⟨cl,ck⟩:=GR g.g k1 k2 k4 k5 k6 ae s σ H I;exact⟨cl,C0,ck⟩) (rB kC X.env) GS
 | .par i j a b,_,_,_,_,h=>absurd (show false=true from h) aY
 | .put o i v,cc,X,st,g,h=>ik (P:=λst=>PS X st _) h λts w pos h=>by
  rcases ts with _|⟨t,_|⟨_,_⟩⟩<;>first | exact absurd h aY | skip
  refine d4 (P:=λt=>PS X (.Assign [t] w pos) _) h λe f sp h=>?_;simp only[aR]at h;obtain⟨⟨⟨h1,h3⟩,h4⟩,h5⟩:=h;exact Qq g.g h1 (bx o _ cc X e g.g h3) (bx i _ cc X f g.g h4) (bx v _ cc X w g.g h5)
 | .dput o i v,_,_,_,_,h=>absurd (show false=true from h) aY
 | .expr c,cc,X,st,g,h=>zR (P:=λst=>PS X st _) h λe pos h=>by
  simp only[aR,i4]at h;exact Lx h.1 (bx c _ cc X e g.g h.2)
 | .ret c,cc,X,st,g,h=>lI (P:=λst=>PS X st _) h λv pos h=>by
  cases v with
  | none=>exact absurd h aY
  | some e=>exact Qr (bx c _ cc X e g.g h)
 | .C2,cc,X,st,g,h=>lI (P:=λst=>PS X st _) h λv pos h=>by
  cases v with
  | some e=>exact absurd h aY
  | none =>
   refine zX E9 λD σ H q=>?_;obtain⟨ads,M,ρ,s,q⟩:=q;exact q .aL H ads (ay.refl _ _) s.mem (show RD X.K ads H .aL .aL from k_)
 | .iff t a b,cc,X,st,g,h=>Gx (P:=λst=>PS X st _) h λc x y pos h=>by
  simp only[aR]at h;exact Vp (zV t _ cc X c g.g h.1.1) (uo a cc X x g h.1.2) (uo b cc X y g h.2)
 | .dD tg k dC b,cc,X,st,g,h=>CG (P:=λst=>PS X st _) h λt aK body Xc pos h=>by
  simp only[aR,AR]at h;obtain⟨⟨⟨rfl,h1⟩,h2⟩,h3⟩:=h;obtain⟨hs,hn⟩:=wB dC k _ cc X t aK g.g h1;exact Qs g.g g.nx hs hn h2 (uo b cc X body g h3)
 | .Lq n t b,_,_,_,_,h=>absurd (show false=true from h) aY
 | .Ay a f c,cc,X,st,g,h=>wj (P:=λst=>PS X st _) h λe k pos h=>by
  replace h:=(aR _ _).mp h
  cases k with
  | some _=>exact absurd h.1 aY
  | none =>
   cases e with
   | none=>exact absurd h.2 aY
   | some e =>
    refine e8 (P:=λe=>PS X (.Raise (some e) none pos) _) h.2 λfe args jZ cS h=>?_
    replace h:=(aR _ _).mp h
    obtain⟨h1,h3⟩:=h
    replace h1:=(aR _ _).mp h1
    obtain⟨h1,h2⟩:=h1;obtain rfl:=AR.mp h1;refine bY (P:=λfe=>PS X (.Raise (some (.Call fe args [] cS)) none pos) _) h2 λx np h2=>?_;simp only[aR,iI]at h2;obtain⟨⟨k1,k2⟩,k3⟩:=h2;rcases args with _|⟨a1,_|⟨a2,as⟩⟩
    ·cases h3
    ·have h4:(aX a1&&cg cc c a1&&cq cc [] [])=true:=h3;simp only[aR]at h4;obtain⟨E,xp,im⟩:=g.xp;exact Qu g.g xp im g.g.room.hd g.xs k1 k2 k3 h4.1.1 (pQ [c] _ cc X [a1] g.g h3)
    ·have h4:(aX a1&&cg cc c a1&&cq cc [] (a2::as))=true:=h3;simp only[aR]at h4;exact absurd h4.2 aY
 | .never,cc,X,st,g,h=>zX Bq λD σ H q=>by
  obtain⟨ads,M,ρ,s,q⟩:=q;exact q
 | .pass,cc,X,st,g,h=>zS (P:=λst=>PS X st _) h λpos h=>zX E7 λD σ H q=>by
  obtain⟨ads,M,ρ,s,q⟩:=q;exact q σ H ads (ay.refl _ _) s
 | .brk,cc,X,st,g,h=>wq (P:=λst=>PS X st _) h λpos h=>zX Bn λD σ H q=>by
  obtain⟨ads,M,ρ,s,q⟩:=q;exact q σ H ads (ay.refl _ _) s
 | .cont,cc,X,st,g,h=>oY (P:=λst=>PS X st _) h λpos h=>zX sY λD σ H q=>by
  obtain⟨ads,M,ρ,s,q⟩:=q;exact q σ H ads (ay.refl _ _) s
theorem uo{kk:Nat}{G:a_}:∀(ss:List S)(cc:CC)(X:Cx)(st:List Stmt),C4 kk X cc G->iW cc ss st=true->pe X st (sF X.K (cH G ss))
 | [],cc,X,[],g,h=>Qn qx λD σ H q=>by
  obtain⟨ads,M,ρ,s,q⟩:=q;exact q σ H ads (ay.refl _ _) s
 | [],cc,X,_::_,g,h=>by cases h
 | _::_,cc,X,[],g,h=>by cases h
 | s::ss,cc,X,t::ts,g,h=>by
  have h':(Ls cc s t&&iW cc ss ts)=true:=h;simp only[aR]at h';exact Qn (hG (Vs s cc X t g h'.1) (uo ss cc X ts g h'.2)) λD σ H q=>Qo q
end
end
noncomputable def gL(n:Nat)(ds:List D):En:=ds.map some++List.replicate (n-ds.length) none
def ah(G:a_)(n:Nat)(body:List S)(ds:List D)(M:ag):bS W:=match cH G body (gL n ds) M with
 | .rt w M=>.ok w M
 | .nx _ M=>.ok (.d .aL) M
 | .er x M=>.err x M
 | _=>.af
theorem C5{K:Frag}{ads:List Addr}{H:Hp}:∀{ds:List D}{vs:List V}(r:aV K ads H ds vs)(k:Nat),PM K ads H (ds.map some++List.replicate k none) (vs.map some++List.replicate k none)
 | ds,vs,r,k=>by
  intro i d e;by_cases hi:i<ds.length
  ·rw[kG (by simpa using hi),c_]at e
   cases q:ds[i]? with
   | none=>rw[q]at e;cases e
   | some d' =>
    rw[q]at e;cases e;obtain⟨v,ev,rv⟩:=r.get q;exact⟨v,by rw[kG (by rw[aB,<- r.len];exact hi),c_,ev];rfl,rv⟩
  ·rw[sH (by simpa using hi),List.getElem?_replicate]at e;split at e<;>cases e
theorem C6{P:Program}{w:World}{K:Frag}{mg:Str->Option Value}{base:Heap}{x qual:Str}{st:Stmt}{f:Addr}{fd:FuncData}{N ps:List Str}{k:Nat}{G:a_}{fs:List (Str×Nat)}{gs:List (Str×Int)}{xs:List (Str×Addr×Str)}{body:List S}{n:Nat}(F:NG K x qual st f fd)(Sc:gA N ps (aI st))(hn:ps.length=n)(hb:iW ⟨N,(aI st).names,fs,gs,xs⟩ body (cv st)=true)(Vt:∀b∈dm,mg b=none)(ZV:∀(x:Str)(v:Int),gs.lookup x=some v->∃t,mg x=some (.int v t))(Vo:∀(i:Nat)(x:Str)(n:Nat),fs[i]?=some (x,n)->∃f fd ps,dQ P w K mg base (sC P w) k f fd ps (Ax K n (G i))/\mg x=some (.ref f)/\PySem.W.keepIn K (.ref f)=true/\Binds K fd ps []) (Vq:∀(x:Str)(a:Addr)(f:Str),xs.lookup x=some (a,f)->∃D fI fd sf oI j,j+1<=k/\sD K a D fI f/\K.lookup fI=some oI/\oI.cls=.type "function" /\ dQ P w K mg base Ig j fI fd [sf,f] (KH K a D fI f)/\Binds K fd [sf,f] []/\mg x=some (.ref a)):dQ P w K mg base (sC P w) (k+1) f fd ps (Ax K n (ah G N.length body)):=by
 have jM:ps.length<=N.length:=by have:=oN List.length Sc.pre;rw[dg]at this;omega
 obtain⟨oc,od,kV,doc,pm,an,lU,ct,Ei,rfl,lk,Ap⟩:=F.ex;refine BF lk Ap Sc (λvs H Q E h=>?_) λA outer s H vs Q E hr uZ=>?_
 ·obtain⟨ads,M,ds,m,r,hl,_⟩:=h;rw[<- r.len,hl,hn]
 ·letI:EX:=vY E
  have gs:C4 k (qE (sC P w) P w K mg base N qual (aI st) f lU A outer s H E) ⟨N,(aI st).names,fs,gs,xs⟩ G:=by
   refine⟨⟨rfl,hr,rfl,Sc.nd,λx k e=>?_,λ_ _=>rfl,Vt,ZV,Vo,⟨E,qS.pass,λh=>h⟩⟩,?_,qS.own,⟨E,qS,λh=>h⟩,Vq⟩
   ·have e:(aI st).names.lookup x=some k:=e
    cases k with
    | «local»=>exact e
    | cell=>exact e
    | free=>exact absurd rfl (Sc.BE _ (mI e))
    | globalExplicit=>exact True.intro
    | globalImplicit=>exact e
   ·show(if (aI st).kind.isAnnotationScope then ScopeKind.function else (aI st).kind)=_;rw[Sc.kind];rfl
  refine⟨_,uo body _ _ (cv st) gs hb,?_⟩;obtain⟨ads,M,ds,m,r,hl,q⟩:=uZ
  have aJ:(gL N.length ds).length=N.length:=by
   unfold gL;rw[dz,aB,Jn];omega
  refine⟨ads,M,gL N.length ds,⟨m,?_,?_⟩,?_⟩
  ·unfold gL L2.start;rw[<- r.len];exact C5 r _
  ·rw[aJ];unfold L2.start;rw[dz,aB,Jn,<- r.len];omega
  ·unfold ah at q
   cases hq:cH G body (gL N.length ds) M with
   | nx ρ M1=>rw[hq]at q;exact λcY H' ar g s'=>q .aL H' ar g s'.mem (show RD K ar H' .aL .aL from k_)
   | rt w M1=>rw[hq]at q;exact q
   | bk _ _=>rw[hq]at q;exact q.elim
   | ct _ _=>rw[hq]at q;exact q.elim
   | er x M1=>rw[hq]at q;exact q
   | af=>rw[hq]at q;exact q.elim
noncomputable def cz(l:List (List D->ag->bS W)):a_:=λi ds M=>match l[i]? with
 | some f=>f ds M
 | none=>.af
theorem Lz{K:Frag}{h:Heap}{mg:Str->Option Value}{gs:List (Str×Int)}(X:K.In h)(G:h.Ns mainGlobals mg)(z:gs.all (λp=>match PySem.W.nsIn K mainGlobals p.1 with | some (some (.int v _))=>v==p.2 | _=>false)=true):∀(x:Str)(v:Int),gs.lookup x=some v->∃t,mg x=some (.int v t):=by
 intro x v e;have q:=sQ.mp z (x,v) (mI e);dsimp only at q;split at q
 ·rename_i w t e2
  obtain rfl:=eq_of_beq q;exact⟨t,gQ X G e2⟩
 ·exact absurd q aY
section
variable {P:Program} {w:World} {K:Frag} {mg:Str->Option Value} {base h:Heap} {k k2:Nat} {x:Str} {n:Nat} {fs:List (Str×Nat)} {Fs:List (List D->ag->bS W)} {F:List D->ag->bS W} {gs:List (Str×Int)}
structure Is (P:Program) (w:World) (K:Frag) (mg:Str->Option Value) (base:Heap) (k:Nat) (x:Str) (n:Nat) (F:List D->ag->bS W):Prop where
 is:∃f fd ps,dQ P w K mg base (sC P w) k f fd ps (Ax K n F)/\mg x=some (.ref f)/\PySem.W.keepIn K (.ref f)=true/\Binds K fd ps []
theorem Is.mono(h:Is P w K mg base k x n F)(hk:k<=k2):Is P w K mg base k2 x n F:=by
 obtain⟨f,fd,ps,a,b⟩:=h.is;exact⟨f,fd,ps,a.mono hk,b⟩
noncomputable def All(P:Program)(w:World)(K:Frag)(mg:Str->Option Value)(base:Heap)(k:Nat)(fs:List (Str×Nat))(Fs:List (List D->ag->bS W)):Prop:=fs.length=Fs.length/\∀(i:Nat)(x:Str)(n:Nat),fs[i]?=some (x,n)->∃F,Fs[i]?=some F/\Is P w K mg base k x n F
theorem All.nil:All P w K mg base k [] []:=⟨rfl,λi x n e=>by simp at e⟩
theorem All.snoc(h:All P w K mg base k fs Fs)(g:Is P w K mg base (k+1) x n F):All P w K mg base (k+1) (fs++[(x,n)]) (Fs++[F]):=by
 obtain⟨hl,h⟩:=h;refine⟨by rw[dz,dz,hl];rfl,λi y m e=>?_⟩;by_cases hi:i<fs.length
 ·rw[kG hi]at e;obtain⟨F,a,b⟩:=h i y m e;exact⟨F,by rw[kG ∅];exact a,b.mono (y6 _)⟩
 ·have:i=fs.length:=by
   have:=(bG.mp e).1;simp at this;omega
  subst this;simp at e;obtain⟨rfl,rfl⟩:=e;exact⟨F,by rw[hl];simp,g⟩
theorem All.fns(h:All P w K mg base k fs Fs):∀(i:Nat)(x:Str)(n:Nat),fs[i]?=some (x,n)->∃f fd ps,dQ P w K mg base (sC P w) k f fd ps (Ax K n (cz Fs i))/\mg x=some (.ref f)/\PySem.W.keepIn K (.ref f)=true/\Binds K fd ps []:=λi y m e=>by
 obtain⟨F,a,b⟩:=h.2 i y m e;have:cz Fs i=F:=by funext ds M;unfold cz;rw[a]
 rw[this];exact b.is
noncomputable def Qv(N ps:List Str)(sc:Scope):Bool:=(match sc.kind with | .function=>true | _=>false) && !sc.isCoroutine && !sc.isGenerator&&decide N.Nodup&&decide (N.take ps.length=ps)&&ps.all (λx=>match sc.names.lookup x with | some .local=>true | some .cell=>true | _=>false)&&sc.names.all λy=>match y.2 with | .free=>false | _=>true
theorem rE{N ps:List Str}{sc:Scope}(h:Qv N ps sc=true):gA N ps sc:=by
 unfold Qv at h;simp only[aR,sQ,qj,i4]at h;obtain⟨⟨⟨⟨⟨⟨h1,h2⟩,h3⟩,h4⟩,h5⟩,h6⟩,h7⟩:=h;refine⟨?_,h2,h3,h4,h5,λx hx=>?_,λy hy e=>?_⟩
 ·split at h1
  ·assumption
  ·cases h1
 ·have:=h6 x hx;split at this
  ·exact .inl (by assumption)
  ·exact .inr (by assumption)
  ·cases this
 ·have:=h7 y hy;rw[e]at this;cases this
noncomputable def SD:Nat->(List Value->Prop)->Prop
 | 0,P=>P []
 | k+1,P=>∀a,SD k λus=>P (a::us)
theorem IC:∀{k:Nat}{P:List Value->Prop},SD k P->∀us,us.length=k->P us:=by
 intro k
 induction k with
 | zero=>intro P h us e;rw[List.length_eq_zero_iff.mp e];exact h
 | succ k ih =>
  intro P h us e
  cases us with
  | nil=>cases e
  | cons a us=>exact ih (P:=λus=>P (a::us)) (h a) us (Nat.succ.inj e)
structure Cw (K:Frag) (h:Heap) (mg:Str->Option Value) (gs:List (Str×Int)):Prop where
 X:K.In h
 G:h.Ns mainGlobals mg
 b:∀b∈dm,mg b=none
 g:∀(x:Str)(v:Int),gs.lookup x=some v->∃t,mg x=some (.int v t)
def Xd(P:Program)(w:World)(K:Frag)(mg:Str->Option Value)(base:Heap)(xs:List (Str×Addr×Str)):Prop:=∀(x:Str)(a:Addr)(f:Str),xs.lookup x=some (a,f)->∃D fI fd sf oI,sD K a D fI f/\K.lookup fI=some oI/\oI.cls=.type "function" /\ dQ P w K mg base Ig 1 fI fd [sf,f] (KH K a D fI f)/\Binds K fd [sf,f] []/\mg x=some (.ref a)
theorem C7(x:Str)(a:Addr)(st:Stmt)(N ps:List Str)(b:List S)(m c:Value)(W:Cw K h mg gs)(A:All P w K mg base k fs Fs)(lk:K.lookup a=some (fo (fq x st m c)))(hc:PySem.W.codeIn K c x=true)(hk:PySem.W.keepIn K (.ref a)=true)(hb:(Qv N ps (aI st)&&iW ⟨N,(aI st).names,fs,gs,[]⟩ b (cv st))=true):dQ P w K mg base (sC P w) (k+1) a (fq x st m c) ps (Ax K ps.length (ah (cz Fs) N.length b)) :=
 C6 (qM lk hc hk) (rE ((aR _ _).mp hb).1) rfl ((aR _ _).mp hb).2 W.b W.g A.fns λ_ _ _ e=>nomatch e
theorem nx(x:Str)(a:Addr)(st:Stmt)(N ps:List Str)(b:List S)(m c:Value)(W:Cw K h mg gs)(A:All P w K mg base k fs Fs)(ha:PySem.W.nsIn K mainGlobals x=some (some (.ref a)):=by (kernel_rfl))(lk:K.lookup a=some (fo (fq x st m c)):=by (kernel_rfl))(hc:PySem.W.codeIn K c x=true:=by (kernel_rfl))(hk:PySem.W.keepIn K (.ref a)=true:=by (kernel_rfl))(hb:(Qv N ps (aI st)&&iW ⟨N,(aI st).names,fs,gs,[]⟩ b (cv st))=true:=by (decide +kernel))(bd:SD ps.length λus=>bindArgs (fq x st m c) ⟨us,[]⟩=pure (ps.zip us):=by (repeat intro _);rfl):All P w K mg base (k+1) (fs++[(x,ps.length)]) (Fs++[ah (cz Fs) N.length b]) :=
 A.snoc ⟨a,_,ps,C7 x a st N ps b m c W A lk hc hk hb,gQ W.X W.G ha,hk,.all (IC bd)⟩
theorem ZW{xs:List (Str×Addr×Str)}(x:Str)(a:Addr)(st:Stmt)(N ps:List Str)(b:List S)(m c:Value)(W:Cw K h mg gs)(A:All P w K mg base k fs Fs)(X:Xd P w K mg base xs)(h2:2<=k)(ha:PySem.W.nsIn K mainGlobals x=some (some (.ref a)):=by (kernel_rfl))(lk:K.lookup a=some (fo (fq x st m c)):=by (kernel_rfl))(hc:PySem.W.codeIn K c x=true:=by (kernel_rfl))(hk:PySem.W.keepIn K (.ref a)=true:=by (kernel_rfl))(hb:(Qv N ps (aI st)&&iW ⟨N,(aI st).names,fs,gs,xs⟩ b (cv st))=true:=by (decide +kernel))(bd:SD ps.length λus=>bindArgs (fq x st m c) ⟨us,[]⟩=pure (ps.zip us):=by (repeat intro _);rfl):All P w K mg base (k+1) (fs++[(x,ps.length)]) (Fs++[ah (cz Fs) N.length b]) :=
 A.snoc ⟨a,_,ps,C6 (qM lk hc hk) (rE ((aR _ _).mp hb).1) rfl ((aR _ _).mp hb).2 W.b W.g A.fns (λx a f e=>by
  obtain⟨D,fI,fd,sf,oI,h1,h3,h4,h5,h6,h7⟩:=X x a f e;exact⟨D,fI,fd,sf,oI,1,h2,h1,h3,h4,h5,h6,h7⟩),gQ W.X W.G ha,hk,.all (IC bd)⟩
end
class Er where
 er:vX->ag->Prop
@[reducible] def j9:Er:=⟨λ_ _=>False⟩
instance (priority:=low) ZX:Er:=j9
section
variable [er:Er]
@[irreducible] noncomputable def aH{α:Type}(o:bS α)(P:α->ag->Prop):Prop:=match o with
 | .ok a M=>P a M
 | .err x M=>Er.er x M
 | .af=>False
theorem aN{α:Type}{a:α}{M:ag}{P:α->ag->Prop}:aH (.ok a M) P=P a M:=by unfold aH;exact propext ql
theorem az{α:Type}{P:α->ag->Prop}:aH .af P=False:=by unfold aH;exact propext ql
theorem dt{α:Type}{P:α->ag->Prop}{x:vX}{M:ag}:aH (.err x M) P=Er.er x M:=by unfold aH;exact propext ql
theorem aC{α β:Type}{o:bS α}{f:α->ag->bS β}{P:β->ag->Prop}:aH (o.bind f) P=aH o λa M=>aH (f a M) P:=by
 cases o with
 | ok a M=>rw[aN];rfl
 | err _ _=>rw[dt];exact dt
 | af=>rw[az];exact az
theorem aH.imp{α:Type}{o:bS α}{P Q:α->ag->Prop}(h:aH o P)(k:∀a M,P a M->Q a M):aH o Q:=by
 cases o with
 | ok a M=>rw[aN]at h⊢;exact k a M h
 | err _ _=>rw[dt]at h⊢;exact h
 | af=>rw[az]at h;exact h.elim
theorem nM{α:Type}{o:bS α}{a:α}{M:ag}{P:α->ag->Prop}(e:o=.ok a M)(h:P a M):aH o P:=by rw[e,aN];exact h
theorem iG{α:Type}{c:Prop}[Decidable c]{o:bS α}{P:α->ag->Prop}:aH (if c then o else .af) P=(c/\aH o P):=by
 by_cases h:c
 ·rw[aF h];exact propext ⟨λq=>⟨h,q⟩,λq=>q.2⟩
 ·rw[aP h,az];exact propext ⟨λq=>q.elim,λq=>absurd q.1 h⟩
omit er in
theorem nN{α:Type}{o:bS α}{P:α->ag->Prop}(h:@aH j9 α o P):∃a M,o=.ok a M/\P a M:=by
 cases o with
 | ok a M=>rw[@aN j9]at h;exact⟨a,M,rfl,h⟩
 | err _ _=>rw[@dt j9]at h;exact h.elim
 | af=>rw[@az j9]at h;exact h.elim
theorem C8{α β:Type}{o:bS α}{f:α->ag->bS β}{P:β->ag->Prop}:aH (o.b0 f) P=@aH j9 α o λa M=>aH (f a M) P:=by
 cases o with
 | ok a M=>rw[@aN j9];rfl
 | err _ _=>rw[@dt j9];exact az
 | af=>rw[@az j9];exact az
@[irreducible] noncomputable def eY(o:ba)(nx:En->ag->Prop)(rt:W->ag->Prop)(bk ct:En->ag->Prop):Prop:=match o with
 | .nx ρ M=>nx ρ M
 | .rt w M=>rt w M
 | .bk ρ M=>bk ρ M
 | .ct ρ M=>ct ρ M
 | .er x M=>Er.er x M
 | .af=>False
section
variable {nx:En->ag->Prop} {rt:W->ag->Prop} {bk ct:En->ag->Prop}
theorem d6{ρ:En}{M:ag}:eY (.nx ρ M) nx rt bk ct=nx ρ M:=by unfold eY;exact propext ql
theorem ip{w:W}{M:ag}:eY (.rt w M) nx rt bk ct=rt w M:=by unfold eY;exact propext ql
theorem lj{ρ:En}{M:ag}:eY (.bk ρ M) nx rt bk ct=bk ρ M:=by unfold eY;exact propext ql
theorem lp{ρ:En}{M:ag}:eY (.ct ρ M) nx rt bk ct=ct ρ M:=by unfold eY;exact propext ql
theorem iq{x:vX}{M:ag}:eY (.er x M) nx rt bk ct=Er.er x M:=by unfold eY;exact propext ql
theorem dN:eY .af nx rt bk ct=False:=by unfold eY;exact propext ql
theorem eG{α:Type}{o:bS α}{f:α->ag->ba}:eY (ba.gK o f) nx rt bk ct=aH o λa M=>eY (f a M) nx rt bk ct:=by
 cases o with
 | ok a M=>rw[aN];rfl
 | err _ _=>rw[dt];exact iq
 | af=>rw[az];exact dN
theorem GU{o:ba}{f:En->ag->ba}:eY (o.seq f) nx rt bk ct=eY o (λρ M=>eY (f ρ M) nx rt bk ct) rt bk ct:=by
 cases o with
 | nx ρ M=>rw[d6];rfl
 | rt ρ M=>rw[ip];exact ip
 | bk ρ M=>rw[lj];exact lj
 | ct ρ M=>rw[lp];exact lp
 | er ρ M=>rw[iq];exact iq
 | af=>rw[dN];exact dN
theorem eY.imp{o:ba}{Xe:En->ag->Prop}{Xf:W->ag->Prop}{Xg Xh:En->ag->Prop}(h:eY o nx rt bk ct)(a:∀ρ M,nx ρ M->Xe ρ M)(b:∀w M,rt w M->Xf w M)(c:∀ρ M,bk ρ M->Xg ρ M)(d:∀ρ M,ct ρ M->Xh ρ M):eY o Xe Xf Xg Xh:=by
 cases o with
 | nx ρ M=>rw[d6]at h⊢;exact a _ _ h
 | rt ρ M=>rw[ip]at h⊢;exact b _ _ h
 | bk ρ M=>rw[lj]at h⊢;exact c _ _ h
 | ct ρ M=>rw[lp]at h⊢;exact d _ _ h
 | er ρ M=>rw[iq]at h⊢;exact h
 | af=>rw[dN]at h;exact h.elim
end
theorem GV{G:a_}{n:Nat}{b:List S}{ds:List D}{M:ag}{P:W->ag->Prop}:aH (ah G n b ds M) P=eY (cH G b (gL n ds) M) (λ_ M=>P (.d .aL) M) P (λ_ _=>False) (λ_ _=>False):=by
 unfold ah
 cases cH G b (gL n ds) M with
 | nx ρ M=>rw[d6];exact aN
 | rt ρ M=>rw[ip];exact aN
 | bk ρ M=>rw[lj];exact az
 | ct ρ M=>rw[lp];exact az
 | er ρ M=>rw[iq];exact dt
 | af=>rw[dN];exact az
section
variable {G:a_} {ρ:En} {M:ag} {P:W->ag->Prop}
theorem Qw{d:D}:aH (ev G (.bb d) ρ M) P=P (.d d) M:=by simp only[KJ,aN]
theorem Qx{op:El}{a b:C}:aH (ev G (.bin op a b) ρ M) P=aH (ev G a ρ M) λx M=>aH (ev G b ρ M) λy M=>aH (kU op x y M) P:=by simp only[KL,aC]
theorem Qy{op:zK}{a b:C}:aH (ev G (.cmp op a b) ρ M) P=aH (ev G a ρ M) λx M=>aH (ev G b ρ M) λy M=>aH (aZ op x y M) λr M=>P (.d (.bl r)) M:=by simp only[Co,aC,aN]
theorem Qz{c:eN}{a b:C}:aH (ev G (.ite c a b) ρ M) P=aH (d_ G c ρ M) λr M=>if r then aH (ev G a ρ M) P else aH (ev G b ρ M) P:=by
 simp only[Cp,aC]
 congr 1;funext r M
 cases r<;>rfl
theorem QA{cs:List C}:aH (ev G (.tup cs) ρ M) P=aH (bB G cs ρ M) λds M=>ds.length<=sizeLine/\P (.d (.tup ds)) M:=by
 simp only[Cq,aC,iG,aN]
theorem QB{cs:List C}:aH (ev G (.lst cs) ρ M) P=aH (bB G cs ρ M) λds M=>ds.length<=sizeLine/\P (.lv ds) M:=by
 simp only[Cr,aC,iG,aN]
theorem k_sub{a b:C}:aH (ev G (.sub a b) ρ M) P=aH (ev G a ρ M) λx M=>aH (ev G b ρ M) λy M=>aH (dh x y M) P:=by simp only[KO,aC]
theorem QC{a:C}{lo hi:Option C}:aH (ev G (.jz a lo hi) ρ M) P=aH (ev G a ρ M) λx M=>aH (sE G lo ρ M) λl M=>aH (sE G hi ρ M) λh M=>aH (ib x l h M) P:=by simp only[KP,aC]
theorem QD{a:C}{k:Int}:aH (ev G (.Aw a k) ρ M) P=aH (ev G a ρ M) λx M=>aH (kW x k M) P:=by simp only[KQ,aC]
theorem Vu{P:Option Int->ag->Prop}:aH (sE G none ρ M) P=P none M:=by simp only[nq,nr,aN]
theorem LB{f:Nat}{cs:List C}:aH (ev G (.call f cs) ρ M) P=aH (bB G cs ρ M) λds M=>aH (G f ds M) P:=by simp only[xU,aC]
theorem Vv{b:Bi}{cs:List C}:aH (ev G (.bi b cs) ρ M) P=aH (dk G cs ρ M) λws M=>aH (iL b ws M) P:=by simp only[Cs,aC]
theorem Vw{m:Me}{o:C}{cs:List C}:aH (ev G (.me m o cs) ρ M) P=aH (ev G o ρ M) λx M=>(fi M x).isSome=true/\aH (bB G cs ρ M) λds M=>aH (v8 m x ds M) P:=by
 simp only[Ct,aC,iG]
theorem QE{ks:List Str}{cs:List C}:aH (ev G (.zF ks cs) ρ M) P=aH (bB G cs ρ M) λds M=>ks.length=ds.length/\P (.d (.aw M.length)) (M++[.dK ((ks.map Sum.inr).zip ds)]):=by
 simp only[v9,aC,iG,aN]
theorem LC{k:SK}{dC:List C}{tg:List Nat}{cond:Option eN}{elt:C}{cO:List (Option Nat)}:aH (ev G (.comp k dC tg cond elt cO) ρ M) P=aH (dk G dC ρ M) λws M=>aH (jT k ws M) λit M=>aH (bc (λτ M=>bI G cond τ M) (λτ M=>(ev G elt τ M).bind own) it tg (dj M it) 0 (eT cO ρ) M []) P:=by simp only[qV,aC]
theorem Vx{P:List D->ag->Prop}:aH (bB G [] ρ M) P=P [] M:=by simp only[gk,e6,aN]
theorem Vy{c:C}{cs:List C}{P:List D->ag->Prop}:aH (bB G (c::cs) ρ M) P=aH (ev G c ρ M) λw M=>aH (own w M) λd M=>aH (bB G cs ρ M) λds M=>P (d::ds) M:=by simp only[gk,e6,aC,aN]
theorem Vz{P:List W->ag->Prop}:aH (dk G [] ρ M) P=P [] M:=by simp only[jU,iz,aN]
theorem VA{c:C}{cs:List C}{P:List W->ag->Prop}:aH (dk G (c::cs) ρ M) P=aH (ev G c ρ M) λw M=>aH (dk G cs ρ M) λds M=>P (w::ds) M:=by simp only[jU,iz,aC,aN]
theorem QF{c:C}{P:Bool->ag->Prop}:aH (d_ G (.val c) ρ M) P=aH (ev G c ρ M) λw M=>∃r,oW M w=some r/\P r M:=by
 simp only[qW,aC]
 congr 1;funext w M
 cases h:oW M w with
 | none=>simp only[reduceCtorEq,false_and,exists_false,az]
 | some r=>simp only[sO,exists_eq_left',aN]
theorem QG{a:eN}{P:Bool->ag->Prop}:aH (d_ G (.neg a) ρ M) P=aH (d_ G a ρ M) λr M=>P (!r) M:=by simp only[Gj,aC,aN]
theorem LD{a:eN}{P:Bool->ag->Prop}:aH (fD G [a] ρ M) P=aH (d_ G a ρ M) P:=by simp only[kZ,jk,aC,aN]
theorem LF{a:eN}{P:Bool->ag->Prop}:aH (fE G [a] ρ M) P=aH (d_ G a ρ M) P:=by simp only[k8,jm,aC,aN]
theorem LG{a b:eN}{cs:List eN}{P:Bool->ag->Prop}:aH (fD G (a::b::cs) ρ M) P=aH (d_ G a ρ M) λr M=>if r then aH (fD G (b::cs) ρ M) P else P false M:=by
 rw[jk];simp only[aC]
 congr 1;funext r M
 cases r with
 | true=>rfl
 | false=>exact aN
theorem LH{a b:eN}{cs:List eN}{P:Bool->ag->Prop}:aH (fE G (a::b::cs) ρ M) P=aH (d_ G a ρ M) λr M=>if r then P true M else aH (fE G (b::cs) ρ M) P:=by
 rw[jm];simp only[aC]
 congr 1;funext r M
 cases r with
 | true=>exact aN
 | false=>rfl
theorem LI{ts:List eN}{P:Bool->ag->Prop}:aH (d_ G (.eC ts) ρ M) P=aH (fD G ts ρ M) P:=by simp only[Cu]
theorem LJ{ts:List eN}{P:Bool->ag->Prop}:aH (d_ G (.gj ts) ρ M) P=aH (fE G ts ρ M) P:=by simp only[Cv]
end
section
variable {G:a_} {ρ:En} {M:ag} {nx:En->ag->Prop} {rt:W->ag->Prop} {bk ct:En->ag->Prop}
theorem LK{i:Nat}{c:C}:eY (ju G (.jt i c) ρ M) nx rt bk ct=aH (ev G c ρ M) λw M=>aH (own w M) λd M=>nx (ρ.set i (some d)) M:=by simp only[uh,eG,aC,d6]
theorem QH{o i v:C}:eY (ju G (.put o i v) ρ M) nx rt bk ct=aH (ev G v ρ M) λw M=>aH (own w M) λd M=>aH (ev G o ρ M) λx M=>aH (ev G i ρ M) λy M=>aH (ic x y d M) λ_ M=>nx ρ M:=by simp only[yi,eG,aC,d6]
theorem LL{c:C}:eY (ju G (.expr c) ρ M) nx rt bk ct=aH (ev G c ρ M) λ_ M=>nx ρ M:=by simp only[ui,eG,d6]
theorem QI{c:C}:eY (ju G (.ret c) ρ M) nx rt bk ct=aH (ev G c ρ M) rt:=by simp only[yj,eG,ip]
theorem VB{t:eN}{a b:List S}:eY (ju G (.iff t a b) ρ M) nx rt bk ct=aH (d_ G t ρ M) λr M=>if r then eY (cH G a ρ M) nx rt bk ct else eY (cH G b ρ M) nx rt bk ct:=by
 simp only[yk,eG]
 congr 1;funext r M
 cases r<;>rfl
theorem QJ{tg:List Nat}{k:SK}{dC:List C}{b:List S}:eY (ju G (.dD tg k dC b) ρ M) nx rt bk ct=aH (dk G dC ρ M) λws M=>aH (jT k ws M) λit M=>eY (dq (λρ M=>cH G b ρ M) it tg (dj M it) 0 ρ M) nx rt bk ct:=by
 simp only[uj,eG,dM,aC]
theorem QK:eY (cH G [] ρ M) nx rt bk ct=nx ρ M:=by simp only[um,pR,d6]
theorem LM{s:S}{ss:List S}:eY (cH G (s::ss) ρ M) nx rt bk ct=eY (ju G s ρ M) (λρ M=>eY (cH G ss ρ M) nx rt bk ct) rt bk ct:=by simp only[um,pR,GU]
end
theorem jv{body:En->ag->ba}{it:It}{tg:List Nat}{ds:List D}{nx:En->ag->Prop}{rt:W->ag->Prop}{bk ct:En->ag->Prop}(I:Nat->En->ag->Prop)(hd:∀i ρ M,I i ρ M->i<=ds.length->itemAt M i it=some ds[i]?)(hs:∀i ρ M d,I i ρ M->ds[i]?=some d->∃eg,bH tg d ρ=some eg/\eY (body eg M) (I (i+1)) rt nx (I (i+1)))(he:∀ρ M,I ds.length ρ M->nx ρ M):∀(f i:Nat)(ρ:En)(M:ag),I i ρ M->i+f=ds.length->eY (dq body it tg f i ρ M) nx rt bk ct
 | 0,i,ρ,M,h,e=>by
  unfold dq;have:i=ds.length:=∅;subst this;rw[hd _ _ _ h (aE _),EF (aE _)];dsimp only;rw[d6];exact he _ _ h
 | f+1,i,ρ,M,h,e=>by
  unfold dq;have hi:i<ds.length:=∅;rw[hd _ _ _ h (kJ hi),bZ hi];obtain⟨eg,e1,e2⟩:=hs i ρ M ds[i] h (bZ hi);dsimp only;rw[e1];dsimp only
  cases q:body eg M with
  | nx Lu M2=>rw[q,d6]at e2;exact jv I hd hs he f (i+1) Lu M2 e2 ∅
  | ct Lu M2=>rw[q,lp]at e2;exact jv I hd hs he f (i+1) Lu M2 e2 ∅
  | bk Lu M2=>rw[q,lj]at e2;dsimp only;rw[d6];exact e2
  | rt w M2=>rw[q,ip]at e2;dsimp only;rw[ip];exact e2
  | er x M2=>rw[q,iq]at e2;dsimp only;rw[iq];exact e2
  | af=>rw[q,dN]at e2;exact e2.elim
theorem rF{cond:En->ag->bS Bool}{elt:En->ag->bS D}{it:It}{tg:List Nat}{ds:List D}{P:W->ag->Prop}(I:Nat->En->ag->List D->Prop)(hd:∀i ρ M acc,I i ρ M acc->i<=ds.length->itemAt M i it=some ds[i]?)(hs:∀i ρ M acc d,I i ρ M acc->ds[i]?=some d->acc.length<sizeLine/\∃eg,bH tg d ρ=some eg/\@aH j9 _ (cond eg M) λb M=>if b then @aH j9 _ (elt eg M) λx M=>I (i+1) eg M (acc++[x]) else I (i+1) eg M acc)(he:∀ρ M acc,I ds.length ρ M acc->P (.lv acc) M):∀(f i:Nat)(ρ:En)(M:ag)(acc:List D),I i ρ M acc->i+f=ds.length->aH (bc cond elt it tg f i ρ M acc) P
 | 0,i,ρ,M,acc,h,e=>by
  unfold bc;have:i=ds.length:=∅;subst this;rw[hd _ _ _ _ h (aE _),EF (aE _)];dsimp only;rw[aN];exact he _ _ _ h
 | f+1,i,ρ,M,acc,h,e=>by
  unfold bc;have hi:i<ds.length:=∅;rw[hd _ _ _ _ h (kJ hi),bZ hi];obtain⟨hl,eg,e1,e2⟩:=hs i ρ M acc ds[i] h (bZ hi);dsimp only;rw[e1];dsimp only;rw[aF hl,C8];refine @aH.imp j9 _ _ _ _ e2 λb M2 q=>?_
  cases b with
  | true =>
   rw[aF rfl]at q⊢;rw[C8];exact @aH.imp j9 _ _ _ _ q λx M3 q=>rF I hd hs he f (i+1) eg M3 _ q ∅
  | false =>
   rw[aP (by simp)]at q⊢;exact rF I hd hs he f (i+1) eg M2 _ q ∅
end
section
variable [er:Er]
noncomputable def eI{α:Type}(o:bS α)(P:α->ag->Prop):Prop:=match o with
 | .ok a M=>P a M
 | .err x M=>Er.er x M
 | .af=>False
theorem bR{α:Type}{o:bS α}{P:α->ag->Prop}:aH o P=eI o P:=by
 cases o with
 | ok a M=>rw[aN];rfl
 | err _ _=>rw[dt];rfl
 | af=>rw[az];rfl
noncomputable def zZ(x:W)(A B:Prop):Prop:=match x with
 | .d (.bl true)=>A
 | .d (.bl false)=>B
 | _=>False
noncomputable def bK(b:Bool)(A B:Prop):Prop:=match b with
 | true=>A
 | false=>B
theorem yn{b:Bool}{A B:Prop}:bK b A B=if b=true then A else B:=by cases b<;>simp[bK]
noncomputable def GW(o:Option Bool)(P:Bool->Prop):Prop:=match o with
 | some r=>P r
 | none=>False
noncomputable def GX(o:Option (Option D))(P:D->Prop):Prop:=match o with
 | some (some d)=>P d
 | _=>False
noncomputable def C9(o:Option En)(P:En->Prop):Prop:=match o with
 | some ρ=>P ρ
 | none=>False
noncomputable def QL(w:W)(P:Int->Prop):Prop:=match w with
 | .d (.int i)=>P i
 | _=>False
def uq:D->Bool
 | .aL=>true
 | _=>false
theorem jw{i:Int}:SeqAt.shaped (.int i)=true:=by unfold SeqAt.shaped;rw[sM,sP];rfl
theorem QM{M:ag}{i j:Int}:aZ .eq (.d (.int i)) (.d (.int j)) M=.ok (i==j) M:=by
 unfold aZ;have h1:∀i,gS M (.d (.int i))=some (.int i):=λi=>by show cB M 30 (.int i)=_;unfold cB;rfl
 simp only[h1,jw,jc,dA,AW]
theorem QN{M:ag}{i j:Int}:aZ .ne (.d (.int i)) (.d (.int j)) M=.ok (!(i==j)) M:=by
 unfold aZ;have h1:∀i,gS M (.d (.int i))=some (.int i):=λi=>by show cB M 30 (.int i)=_;unfold cB;rfl
 simp only[h1,jw,jc,dA,AW]
def LN(op:El)(x y:W)(M:ag)(P:W->ag->Prop):Prop:=match op,x,y with
 | .add,.d (.int i),.d (.int j)=>P (.d (.int (i+j))) M
 | .sub,.d (.int i),.d (.int j)=>P (.d (.int (i-j))) M
 | .mul,.d (.int i),.d (.int j)=>((-(2 ^ 64)<i/\i<2 ^ 64)\/(-(2 ^ 64)<j/\j<2 ^ 64))/\P (.d (.int (i*j))) M
 | .fdiv,.d (.int i),.d (.int j)=>(0<j/\j<1073741824)/\P (.d (.int (i / j))) M
 | .mod,.d (.int i),.d (.int j)=>0<j/\P (.d (.int (i % j))) M
 | .add,.d (.tup xs),.d (.tup ys)=>xs.length+ys.length<=sizeLine/\P (.d (.tup (xs++ys))) M
 | .add,.lv xs,.lv ys=>xs.length+ys.length<=sizeLine/\P (.lv (xs++ys)) M
 | op,x,y=>eI (kU op x y M) P
theorem nO{α:Type}{c:Prop}[Decidable c]{a:α}{M:ag}{P:α->ag->Prop}:eI (if c then .ok a M else .af) P=(c/\P a M):=by
 by_cases h:c
 ·rw[aF h];exact propext ⟨λq=>⟨h,q⟩,λq=>q.2⟩
 ·rw[aP h];exact propext ⟨λq=>q.elim,λq=>absurd q.1 h⟩
theorem GY{op:El}{x y:W}{M:ag}{P:W->ag->Prop}:eI (kU op x y M) P=LN op x y M P:=by
 rcases x with⟨_|_ | i | _ | xs | _|_⟩ | xs
 all_goals (first | (cases op<;>rfl) | skip)
 ·rcases y with⟨_|_ | j | _|_|_|_⟩|_<;>cases op<;>first | rfl | exact nO
 ·rcases y with⟨_|_|_|_ | ys | _|_⟩|_<;>cases op<;>first | rfl | exact nO
 ·rcases y with⟨_|_|_|_|_|_|_⟩ | ys<;>cases op<;>first | rfl | exact nO
def ur(op:zK)(x y:W)(M:ag)(P:Bool->ag->Prop):Prop:=match op,x,y with
 | .eq,.d (.int i),.d (.int j)=>P (i==j) M
 | .ne,.d (.int i),.d (.int j)=>P (!(i==j)) M
 | .qT,.d d,_=>P (uq d) M
 | .fy,.d d,_=>P (!uq d) M
 | op,x,y=>eI (aZ op x y M) P
theorem mj{op:zK}{x y:W}{M:ag}{P:Bool->ag->Prop}:eI (aZ op x y M) P=ur op x y M P:=by
 cases op
 case eq=>rcases x with⟨_|_ | i | _|_|_|_⟩|_<;>first | rfl | (rcases y with⟨_|_ | j | _|_|_|_⟩|_<;>first | (rw[QM];rfl) | rfl)
 case ne=>rcases x with⟨_|_ | i | _|_|_|_⟩|_<;>first | rfl | (rcases y with⟨_|_ | j | _|_|_|_⟩|_<;>first | (rw[QN];rfl) | rfl)
 case qT=>rcases x with⟨_|_|_|_|_|_|_⟩|_<;>rfl
 case fy=>rcases x with⟨_|_|_|_|_|_|_⟩|_<;>rfl
 all_goals (first | rfl | (rcases x with⟨_|_|_|_|_|_|_⟩|_<;>rfl))
def z0(k:SK)(ws:List W)(M:ag)(P:It->ag->Prop):Prop:=match k,ws with
 | .fT,[.d (.int j)]=>(-(2 ^ 62)<=j/\j<2 ^ 62)/\P (.lB 0 j.toNat) M
 | .Cj,[.d (.int i),.d (.int j)]=>(-(2 ^ 62)<=i/\i<2 ^ 62/\-(2 ^ 62)<=j/\j<2 ^ 62)/\P (.lB i (j-i).toNat) M
 | k,ws=>eI (jT k ws M) P
theorem yo{k:SK}{ws:List W}{M:ag}{P:It->ag->Prop}:eI (jT k ws M) P=z0 k ws M P:=by
 unfold z0;split<;>first | rfl | exact nO
def GZ(tp:Bool)(ws:List W)(M:ag)(P:W->ag->Prop):Prop:=match v7 ws with
 | some (i,j)=>((-(2 ^ 62)<=i/\i<2 ^ 62/\-(2 ^ 62)<=j/\j<2 ^ 62)/\(j-i).toNat<=2 ^ 24)/\P (Ck tp (PQ i (j-i).toNat)) M
 | none=>False
theorem G0{tp:Bool}{ws:List W}{M:ag}{P:W->ag->Prop}:eI (Gf tp ws M) P=GZ tp ws M P:=by
 unfold Gf GZ
 cases v7 ws with
 | none=>rfl
 | some ij=>exact nO
mutual
noncomputable def wE(G:a_):C->En->ag->(W->ag->Prop)->Prop
  | .dH i,ρ,M,P=>GX ρ[i]? λd=>P (.d d) M
  | .bb d,_,M,P=>P (.d d) M
  | .bin op a b,ρ,M,P=>wE G a ρ M λx M=>wE G b ρ M λy M=>LN op x y M P
  | .cmp op a b,ρ,M,P=>wE G a ρ M λx M=>wE G b ρ M λy M=>ur op x y M λr M=>P (.d (.bl r)) M
  | .chain o1 o2 a b c, ρ, M, P => wE G a ρ M fun x M => wE G b ρ M fun y M => ur o1 x y M fun r M =>
      bK r (wE G c ρ M λz M=>ur o2 y z M λr M=>P (.d (.bl r)) M) (P (.d (.bl false)) M)
  | .eC cs,ρ,M,P=>z4 G cs ρ M P
  | .gj cs,ρ,M,P=>NS G cs ρ M P
  | .neg a,ρ,M,P=>wE G a ρ M λx M=>zZ x (P (.d (.bl false)) M) (P (.d (.bl true)) M)
  | .ite c a b,ρ,M,P=>wT G c ρ M λr M=>bK r (wE G a ρ M P) (wE G b ρ M P)
  | .tup cs,ρ,M,P=>Az G cs ρ M λds M=>ds.length<=sizeLine/\P (.d (.tup ds)) M
  | .lst cs,ρ,M,P=>Az G cs ρ M λds M=>ds.length<=sizeLine/\P (.lv ds) M
  | .sub a b,ρ,M,P=>wE G a ρ M λx M=>wE G b ρ M λy M=>eI (dh x y M) P
  | .jz a lo hi,ρ,M,P=>wE G a ρ M λx M=>wO G lo ρ M λl M=>wO G hi ρ M λh M=>eI (ib x l h M) P
  | .Aw a k,ρ,M,P=>wE G a ρ M λx M=>eI (kW x k M) P
  | .call f cs,ρ,M,P=>Az G cs ρ M λds M=>aH (G f ds M) P
  | .bi b cs,ρ,M,P=>z5 G cs ρ M λws M=>eI (iL b ws M) P
  | .me m o cs,ρ,M,P=>wE G o ρ M λx M=>(fi M x).isSome=true/\Az G cs ρ M λds M=>eI (v8 m x ds M) P
  | .zF ks cs,ρ,M,P=>Az G cs ρ M λds M=>ks.length=ds.length/\P (.d (.aw M.length)) (M++[.dK ((ks.map Sum.inr).zip ds)])
  | .lB tp cs,ρ,M,P=>z5 G cs ρ M λws M=>GZ tp ws M P
  | .Gd _ v,_,M,P=>P (.d (.int v)) M
  | .gD ng a,ρ,M,P=>wE G a ρ M λx M=>eI (xT ng x M) P
  | .comp k dC tg cond elt cO,ρ,M,P=>z5 G dC ρ M λws M=>z0 k ws M λit M=>aH (bc (λτ M=>bI G cond τ M) (λτ M=>(ev G elt τ M).bind own) it tg (dj M it) 0 (eT cO ρ) M []) P
noncomputable def wT(G:a_):eN->En->ag->(Bool->ag->Prop)->Prop
 | .eC ts,ρ,M,P=>LO G ts ρ M P
 | .gj ts,ρ,M,P=>LP G ts ρ M P
 | .neg a,ρ,M,P=>wT G a ρ M λr M=>P (!r) M
 | .val c,ρ,M,P=>wE G c ρ M λw M=>GW (oW M w) λr=>P r M
noncomputable def z4(G:a_):List C->En->ag->(W->ag->Prop)->Prop
 | [],_,_,_=>False
 | c::cs,ρ,M,P=>match cs with
  | []=>wE G c ρ M P
  | _::_=>wE G c ρ M λx M=>zZ x (z4 G cs ρ M P) (P (.d (.bl false)) M)
noncomputable def NS(G:a_):List C->En->ag->(W->ag->Prop)->Prop
 | [],_,_,_=>False
 | c::cs,ρ,M,P=>match cs with
  | []=>wE G c ρ M P
  | _::_=>wE G c ρ M λx M=>zZ x (P (.d (.bl true)) M) (NS G cs ρ M P)
noncomputable def LO(G:a_):List eN->En->ag->(Bool->ag->Prop)->Prop
 | [],_,_,_=>False
 | c::cs,ρ,M,P=>match cs with
  | []=>wT G c ρ M P
  | _::_=>wT G c ρ M λr M=>bK r (LO G cs ρ M P) (P false M)
noncomputable def LP(G:a_):List eN->En->ag->(Bool->ag->Prop)->Prop
 | [],_,_,_=>False
 | c::cs,ρ,M,P=>match cs with
  | []=>wT G c ρ M P
  | _::_=>wT G c ρ M λr M=>bK r (P true M) (LP G cs ρ M P)
noncomputable def Az(G:a_):List C->En->ag->(List D->ag->Prop)->Prop
 | [],_,M,P=>P [] M
 | c::cs,ρ,M,P=>wE G c ρ M λw M=>eI (own w M) λd M=>Az G cs ρ M λds M=>P (d::ds) M
noncomputable def z5(G:a_):List C->En->ag->(List W->ag->Prop)->Prop
 | [],_,M,P=>P [] M
 | c::cs,ρ,M,P=>wE G c ρ M λw M=>z5 G cs ρ M λws M=>P (w::ws) M
noncomputable def wO(G:a_):Option C->En->ag->(Option Int->ag->Prop)->Prop
 | none,_,M,P=>P none M
 | some c,ρ,M,P=>wE G c ρ M λw M=>QL w λi=>P (some i) M
end
section
variable {G:a_} {lo hi:Option C} {cond:Option eN}
theorem LQ:wE G (.dH i) ρ M P=GX ρ[i]? λd=>P (.d d) M:=rfl
theorem LR:wE G (.bin op a b) ρ M P=wE G a ρ M λx M=>wE G b ρ M λy M=>LN op x y M P:=rfl
theorem LS:wE G (.cmp op a b) ρ M P=wE G a ρ M λx M=>wE G b ρ M λy M=>ur op x y M λr M=>P (.d (.bl r)) M:=rfl
theorem C_ : wE G (.chain o1 o2 a b c) ρ M P = (wE G a ρ M fun x M => wE G b ρ M fun y M => ur o1 x y M fun r M =>
      bK r (wE G c ρ M λz M=>ur o2 y z M λr M=>P (.d (.bl r)) M) (P (.d (.bl false)) M)):=rfl
theorem LU:wE G (.neg a) ρ M P=wE G a ρ M λx M=>zZ x (P (.d (.bl false)) M) (P (.d (.bl true)) M):=rfl
theorem LV:wE G (.ite c a b) ρ M P=wT G c ρ M λr M=>bK r (wE G a ρ M P) (wE G b ρ M P):=rfl
theorem LW:wE G (.sub a b) ρ M P=wE G a ρ M λx M=>wE G b ρ M λy M=>eI (dh x y M) P:=rfl
theorem LX:wE G (.jz a lo hi) ρ M P=wE G a ρ M λx M=>wO G lo ρ M λl M=>wO G hi ρ M λh M=>eI (ib x l h M) P:=rfl
theorem LY:wE G (.Aw a k) ρ M P=wE G a ρ M λx M=>eI (kW x k M) P:=rfl
theorem QO:wE G (.bi b cs) ρ M P=z5 G cs ρ M λws M=>eI (iL b ws M) P:=rfl
theorem QP:wE G (.me m o cs) ρ M P=wE G o ρ M λx M=>(fi M x).isSome=true/\Az G cs ρ M λds M=>eI (v8 m x ds M) P:=rfl
theorem LZ:wE G (.lB tp cs) ρ M P=z5 G cs ρ M λws M=>GZ tp ws M P:=rfl
theorem G1:wE G (.gD ng a) ρ M P=wE G a ρ M λx M=>eI (xT ng x M) P:=rfl
theorem G2:wE G (.comp k dC tg cond elt cO) ρ M P=z5 G dC ρ M λws M=>z0 k ws M λit M=>aH (bc (λτ M=>bI G cond τ M) (λτ M=>(ev G elt τ M).bind own) it tg (dj M it) 0 (eT cO ρ) M []) P:=rfl
theorem L0:wT G (.val c) ρ M P=wE G c ρ M λw M=>GW (oW M w) λr=>P r M:=rfl
theorem Dc:z4 G [] u0 u1 u2=False:=rfl
theorem pU : z4 G (c :: cs) ρ M P = (match cs with
    | []=>wE G c ρ M P
    | _::_=>wE G c ρ M λx M=>zZ x (z4 G cs ρ M P) (P (.d (.bl false)) M)):=rfl
theorem G3:NS G [] u0 u1 u2=False:=rfl
theorem uu : NS G (c :: cs) ρ M P = (match cs with
    | []=>wE G c ρ M P
    | _::_=>wE G c ρ M λx M=>zZ x (P (.d (.bl true)) M) (NS G cs ρ M P)):=rfl
theorem G4:Az G [] u0 M P=P [] M:=rfl
theorem Dd:Az G (c::cs) ρ M P=wE G c ρ M λw M=>eI (own w M) λd M=>Az G cs ρ M λds M=>P (d::ds) M:=rfl
theorem G5:z5 G [] u0 M P=P [] M:=rfl
theorem De:z5 G (c::cs) ρ M P=wE G c ρ M λw M=>z5 G cs ρ M λws M=>P (w::ws) M:=rfl
theorem G6:wO G none u0 M P=P none M:=rfl
theorem G7:wO G (some c) ρ M P=wE G c ρ M λw M=>QL w λi=>P (some i) M:=rfl
end
def j_(G:a_)(o:Option eN)(ρ:En)(M:ag)(P:Bool->ag->Prop):Prop:=match o with
 | none=>P true M
 | some t=>wT G t ρ M P
mutual
theorem iM{G:a_}:∀(c:C)(ρ:En)(M:ag)(P:W->ag->Prop),aH (ev G c ρ M) P=wE G c ρ M P
 | .dH i,ρ,M,P=>by
  simp only[Cn,LQ];rcases ρ[i]? with _|_ | d
  ·exact az
  ·exact az
  ·exact aN
 | .bb d,ρ,M,P=>by rw[Qw];rfl
 | .bin op a b,ρ,M,P=>by rw[Qx,iM a];simp only[iM b,bR,LR,GY]
 | .cmp op a b,ρ,M,P=>by rw[Qy,iM a];simp only[iM b,bR,LS,mj]
 | .chain o1 o2 a b c,ρ,M,P=>by
  simp only[tZ,aC,C_];rw[iM a]
  congr 1;funext x M
  rw[iM b]
  congr 1;funext y M
  rw[bR,mj]
  congr 1;funext r M
  cases r with
  | true=>simp only[aC,aN,dA,iM c];simp only[bR,mj];rfl
  | false=>simp[aN,bK]
 | .eC cs,ρ,M,P=>by rw[Gh,w_and cs];rfl
 | .gj cs,ρ,M,P=>by rw[Gi,w_or cs];rfl
 | .neg a,ρ,M,P=>by
  simp only[KN,aC,LU];rw[iM a]
  congr 1;funext x M
  rcases x with⟨_ | b | _|_|_|_|_⟩|_
  ·exact az
  ·cases b<;>exact aN
  all_goals exact az
 | .ite c a b,ρ,M,P=>by rw[Qz,ID c];simp only[iM a,iM b,LV,yn]
 | .tup cs,ρ,M,P=>by rw[QA,uw cs];rfl
 | .lst cs,ρ,M,P=>by rw[QB,uw cs];rfl
 | .sub a b,ρ,M,P=>by rw[k_sub,iM a];simp only[iM b,bR,LW]
 | .jz a lo hi,ρ,M,P=>by rw[QC,iM a];simp only[Xi lo,Xi hi,bR,LX]
 | .Aw a k,ρ,M,P=>by rw[QD,iM a];simp only[bR,LY]
 | .call f cs,ρ,M,P=>by rw[LB,uw cs];rfl
 | .bi b cs,ρ,M,P=>by rw[Vv,Df cs];simp only[bR,QO]
 | .me m o cs,ρ,M,P=>by rw[Vw,iM o];simp only[uw cs,bR,QP]
 | .zF ks cs,ρ,M,P=>by rw[QE,uw cs];rfl
 | .lB tp cs,ρ,M,P=>by simp only[KR,aC,LZ];rw[Df cs];simp only[bR,G0]
 | .Gd x v,ρ,M,P=>by rw[KS];exact aN
 | .gD ng a,ρ,M,P=>by simp only[xV,aC,G1];rw[iM a];simp only[bR]
 | .comp k dC tg cond elt cO,ρ,M,P=>by rw[LC,Df dC];simp only[bR,G2,yo]
theorem ID{G:a_}:∀(c:eN)(ρ:En)(M:ag)(P:Bool->ag->Prop),aH (d_ G c ρ M) P=wT G c ρ M P
 | .eC cs,ρ,M,P=>by rw[LI,w_all cs];rfl
 | .gj cs,ρ,M,P=>by rw[LJ,w_any cs];rfl
 | .neg a,ρ,M,P=>by rw[QG,ID a];rfl
 | .val c,ρ,M,P=>by
  rw[QF,iM c];simp only[L0]
  congr 1;funext w M
  cases oW M w with
  | none=>simp[GW]
  | some r=>simp[GW]
theorem w_and{G:a_}:∀(cs:List C)(ρ:En)(M:ag)(P:W->ag->Prop),aH (iS G cs ρ M) P=z4 G cs ρ M P
 | [],ρ,M,P=>by rw[kX];exact az
 | [c],ρ,M,P=>by simp only[kX,ji,Dc,pU,aC,aN,iM c]
 | c::b::cs,ρ,M,P=>by
  rw[ji,pU,aC,iM c]
  congr 1;funext x M
  rw[<- w_and (b::cs)];rcases x with⟨_ | b | _|_|_|_|_⟩|_
  ·exact az
  ·cases b with
   | true=>rfl
   | false=>exact aN
  all_goals exact az
theorem w_or{G:a_}:∀(cs:List C)(ρ:En)(M:ag)(P:W->ag->Prop),aH (oX G cs ρ M) P=NS G cs ρ M P
 | [],ρ,M,P=>by rw[nk];exact az
 | [c],ρ,M,P=>by simp only[nk,kY,G3,uu,aC,aN,iM c]
 | c::b::cs,ρ,M,P=>by
  rw[kY,uu,aC,iM c]
  congr 1;funext x M
  rw[<- w_or (b::cs)];rcases x with⟨_ | b | _|_|_|_|_⟩|_
  ·exact az
  ·cases b with
   | true=>exact aN
   | false=>rfl
  all_goals exact az
theorem w_all{G:a_}:∀(cs:List eN)(ρ:En)(M:ag)(P:Bool->ag->Prop),aH (fD G cs ρ M) P=LO G cs ρ M P
 | [],ρ,M,P=>by rw[kZ];exact az
 | [c],ρ,M,P=>by rw[LD,ID c];rfl
 | c::b::cs,ρ,M,P=>by rw[LG,ID c];simp only[w_all (b::cs),<- yn];rfl
theorem w_any{G:a_}:∀(cs:List eN)(ρ:En)(M:ag)(P:Bool->ag->Prop),aH (fE G cs ρ M) P=LP G cs ρ M P
 | [],ρ,M,P=>by rw[k8];exact az
 | [c],ρ,M,P=>by rw[LF,ID c];rfl
 | c::b::cs,ρ,M,P=>by rw[LH,ID c];simp only[w_any (b::cs),<- yn];rfl
theorem uw{G:a_}:∀(cs:List C)(ρ:En)(M:ag)(P:List D->ag->Prop),aH (bB G cs ρ M) P=Az G cs ρ M P
 | [],ρ,M,P=>by rw[Vx];rfl
 | c::cs,ρ,M,P=>by rw[Vy,iM c];simp only[uw cs,bR,G4,Dd]
theorem Df{G:a_}:∀(cs:List C)(ρ:En)(M:ag)(P:List W->ag->Prop),aH (dk G cs ρ M) P=z5 G cs ρ M P
 | [],ρ,M,P=>by rw[Vz];rfl
 | c::cs,ρ,M,P=>by rw[VA,iM c];simp only[Df cs,bR,G5,De]
theorem Xi{G:a_}:∀(o:Option C)(ρ:En)(M:ag)(P:Option Int->ag->Prop),aH (sE G o ρ M) P=wO G o ρ M P
 | none,ρ,M,P=>by rw[Vu];rfl
 | some c,ρ,M,P=>by
  simp only[nq,nr,aC,G6,G7];rw[iM c]
  congr 1;funext x M
  rcases x with⟨_|_ | z | _|_|_|_⟩|_
  ·exact az
  ·exact az
  ·exact aN
  all_goals exact az
end
theorem w_cond{G:a_}{o:Option eN}{ρ:En}{M:ag}{P:Bool->ag->Prop}:aH (bI G o ρ M) P=j_ G o ρ M P:=by
 cases o with
 | none=>exact aN
 | some t=>exact ID t ρ M P
theorem ux{G:a_}{c:C}{ρ:En}{M:ag}{P:D->ag->Prop}:aH ((ev G c ρ M).bind own) P=wE G c ρ M λw M=>eI (own w M) P:=by
 rw[aC,iM];simp only[bR]
mutual
noncomputable def wS(G:a_):S->En->ag->(En->ag->Prop)->(W->ag->Prop)->(En->ag->Prop)->(En->ag->Prop)->Prop
 | .asg tg c,ρ,M,nx,_,_,_=>wE G c ρ M λw M=>eI (own w M) λd M=>C9 (bH tg d ρ) λρ=>nx ρ M
 | .jt i c,ρ,M,nx,_,_,_=>wE G c ρ M λw M=>eI (own w M) λd M=>nx (ρ.set i (some d)) M
 | .put o i v,ρ,M,nx,_,_,_=>wE G v ρ M λw M=>eI (own w M) λd M=>wE G o ρ M λx M=>wE G i ρ M λy M=>eI (ic x y d M) λ_ M=>nx ρ M
 | .dput o i v,ρ,M,nx,_,_,_=>wE G v ρ M λw M=>eI (own w M) λd M=>wE G o ρ M λx M=>wE G i ρ M λy M=>eI (xS x y d M) λ_ M=>nx ρ M
 | .par i j a b,ρ,M,nx,_,_,_=>wE G a ρ M λw M=>eI (own w M) λx M=>wE G b ρ M λw M=>eI (own w M) λy M=>nx ((ρ.set i (some x)).set j (some y)) M
 | .expr c,ρ,M,nx,_,_,_=>wE G c ρ M λ_ M=>nx ρ M
 | .ret c,ρ,M,_,rt,_,_=>wE G c ρ M rt
 | .C2,_,M,_,rt,_,_=>rt (.d .aL) M
 | .iff t a b,ρ,M,nx,rt,bk,ct=>wT G t ρ M λr M=>bK r (du G a ρ M nx rt bk ct) (du G b ρ M nx rt bk ct)
 | .dD tg k dC b,ρ,M,nx,rt,bk,ct=>z5 G dC ρ M λws M=>z0 k ws M λit M=>eY (dq (λρ M=>cH G b ρ M) it tg (dj M it) 0 ρ M) nx rt bk ct
 | .Lq n t b,ρ,M,nx,rt,bk,ct=>eY (zW (λρ M=>d_ G t ρ M) (λρ M=>cH G b ρ M) n ρ M) nx rt bk ct
 | .Ay a f c,ρ,M,_,_,_,_=>wE G c ρ M λw M=>eI (own w M) λd M=>Er.er ⟨a,[(f,d)]⟩ M
 | .never,_,_,_,_,_,_=>False
 | .pass,ρ,M,nx,_,_,_=>nx ρ M
 | .brk,ρ,M,_,_,bk,_=>bk ρ M
 | .cont,ρ,M,_,_,_,ct=>ct ρ M
noncomputable def du(G:a_):List S->En->ag->(En->ag->Prop)->(W->ag->Prop)->(En->ag->Prop)->(En->ag->Prop)->Prop
 | [],ρ,M,nx,_,_,_=>nx ρ M
 | s::ss,ρ,M,nx,rt,bk,ct=>wS G s ρ M (λρ M=>du G ss ρ M nx rt bk ct) rt bk ct
end
section
variable {G:a_} {lo hi:Option C} {cond:Option eN} {nx bk ct:En->ag->Prop} {rt:W->ag->Prop}
theorem L1:wS G (.asg tg c) ρ M nx u0 u1 u2=wE G c ρ M λw M=>eI (own w M) λd M=>C9 (bH tg d ρ) λρ=>nx ρ M:=rfl
theorem G8:wS G (.jt i c) ρ M nx u0 u1 u2=wE G c ρ M λw M=>eI (own w M) λd M=>nx (ρ.set i (some d)) M:=rfl
theorem L3:wS G (.put o i v) ρ M nx u0 u1 u2=wE G v ρ M λw M=>eI (own w M) λd M=>wE G o ρ M λx M=>wE G i ρ M λy M=>eI (ic x y d M) λ_ M=>nx ρ M:=rfl
theorem G9:wS G (.dput o i v) ρ M nx u0 u1 u2=wE G v ρ M λw M=>eI (own w M) λd M=>wE G o ρ M λx M=>wE G i ρ M λy M=>eI (xS x y d M) λ_ M=>nx ρ M:=rfl
theorem L4:wS G (.par i j a b) ρ M nx u0 u1 u2=wE G a ρ M λw M=>eI (own w M) λx M=>wE G b ρ M λw M=>eI (own w M) λy M=>nx ((ρ.set i (some x)).set j (some y)) M:=rfl
theorem L5:wS G (.iff t a b) ρ M nx rt bk ct=wT G t ρ M λr M=>bK r (du G a ρ M nx rt bk ct) (du G b ρ M nx rt bk ct):=rfl
theorem G_:wS G (.dD tg k dC b) ρ M nx rt bk ct=z5 G dC ρ M λws M=>z0 k ws M λit M=>eY (dq (λρ M=>cH G b ρ M) it tg (dj M it) 0 ρ M) nx rt bk ct:=rfl
theorem L6:wS G (.Lq n t b) ρ M nx rt bk ct=eY (zW (λρ M=>d_ G t ρ M) (λρ M=>cH G b ρ M) n ρ M) nx rt bk ct:=rfl
theorem L7:wS G (.Ay a f c) ρ M u0 u1 u2 u3=wE G c ρ M λw M=>eI (own w M) λd M=>Er.er ⟨a,[(f,d)]⟩ M:=rfl
end
mutual
theorem ZY{G:a_}:∀(s:S)(ρ:En)(M:ag)(nx:En->ag->Prop)(rt:W->ag->Prop)(bk ct:En->ag->Prop),eY (ju G s ρ M) nx rt bk ct=wS G s ρ M nx rt bk ct
 | .asg tg c,ρ,M,nx,rt,bk,ct=>by
  simp only[yh,eG,L1];rw[ux]
  congr 1;funext w M
  congr 1;funext d M
  cases bH tg d ρ with
  | none=>exact dN
  | some ρ=>exact d6
 | .jt i c,ρ,M,nx,rt,bk,ct=>by rw[LK,iM c];simp only[bR,G8]
 | .put o i v,ρ,M,nx,rt,bk,ct=>by rw[QH,iM v];simp only[iM o,iM i,bR,L3]
 | .dput o i v,ρ,M,nx,rt,bk,ct=>by
  simp only[C3,eG,G9];rw[ux];simp only[iM o,iM i,bR,d6]
 | .par i j a b,ρ,M,nx,rt,bk,ct=>by
  simp only[GN,eG];rw[uw];show wE G a ρ M (λw M=>eI (own w M) λx M=>wE G b ρ M λw M=>eI (own w M) λy M=>eY (.nx ((ρ.set i (some x)).set j (some y)) M) nx rt bk ct)=_;simp only[d6,L4]
 | .expr c,ρ,M,nx,rt,bk,ct=>by rw[LL,iM c];rfl
 | .ret c,ρ,M,nx,rt,bk,ct=>by rw[QI,iM c];rfl
 | .C2,ρ,M,nx,rt,bk,ct=>ip
 | .iff t a b,ρ,M,nx,rt,bk,ct=>by rw[VB,ID t];simp only[rG a,rG b,L5,yn]
 | .dD tg k dC b,ρ,M,nx,rt,bk,ct=>by rw[QJ,Df dC];simp only[bR,G_,yo]
 | .Lq n t b,ρ,M,nx,rt,bk,ct=>by simp only[GO,L6]
 | .Ay a f c,ρ,M,nx,rt,bk,ct=>by
  simp only[ym,eG];rw[uw];show wE G c ρ M (λw M=>eI (own w M) λd M=>eY (.er ⟨a,[(f,d)]⟩ M) nx rt bk ct)=_;simp only[iq,L7]
 | .never,ρ,M,nx,rt,bk,ct=>dN
 | .pass,ρ,M,nx,rt,bk,ct=>d6
 | .brk,ρ,M,nx,rt,bk,ct=>lj
 | .cont,ρ,M,nx,rt,bk,ct=>lp
theorem rG{G:a_}:∀(ss:List S)(ρ:En)(M:ag)(nx:En->ag->Prop)(rt:W->ag->Prop)(bk ct:En->ag->Prop),eY (cH G ss ρ M) nx rt bk ct=du G ss ρ M nx rt bk ct
 | [],ρ,M,nx,rt,bk,ct=>QK
 | s::ss,ρ,M,nx,rt,bk,ct=>by rw[LM,ZY s];simp only[rG ss];rfl
end
theorem bf{G:a_}{n:Nat}{b:List S}{ds:List D}{M:ag}{P:W->ag->Prop}:aH (ah G n b ds M) P=du G b (gL n ds) M (λ_ M=>P (.d .aL) M) P (λ_ _=>False) (λ_ _=>False):=by
 rw[GV,rG]
end
section
variable {X:Cx}
theorem yp:∀(l:List (Str×Pos×Addr)),(∀p∈l,Gl X p.1/\X.mg p.1=some (.ref p.2.2)/\(p.1==("__debug__" : Str))=false)->PA X (l.map λp=>.Name p.1 p.2.1) (λ_ H Q=>Q (l.map λp=>V.ref p.2.2) H)
 | [],_=>NM ff λ_ _ _ q=>q
 | p::l,h=>by
  obtain⟨h1,h2,h3⟩:=h p (ez ..);exact NM (cF (qw (v:=.ref p.2.2) h1 h2 rfl h3) (yp l λq hq=>h q (dP _ hq)) rfl) λ_ _ _ q=>q
theorem Ha{a b:Expr}{pos:Pos}{s t:TT}(ha:PT X a s)(hb:PT X b t):PT X (.BoolOp .And [a,b] pos) (OJ s t):=(Bk ha (xC hb)).pt
theorem Dg {e C D fI dx : Addr} {f x n cx : Str} {i j : Nat} {k : Int} {fs : List (Str × V)} {l : List (Str × Pos × Addr)} {p1 p2 p3 p4 p5 p6 p7 p8 p9 q1 q2 q3 q4 q5 q6 q7 q8 q9 r1 r2 r3 r4 r5 r6 r7 v1 v2 v3 v4 : Pos} {j1 j2 j3 : Nat} {t1 t2 t3 t4 : Nat}
    (hN:X.N.Nodup) (hi:X.N[i]?=some x) (hj:X.N[j]?=some n) (L8:i≠j) (hx:X.env.scope.names.lookup x=some .local) (hn:X.env.scope.names.lookup n=some .local) (nb:((n==("__debug__" : Str))||(n==("__classdict__" : Str))||(cx==("__debug__" : Str)))=false)
    (gi:Gl X "isinstance") (mi:X.mg "isinstance" = none) (gv:Gl X "ValueError") (mv:X.mg "ValueError" = none) (gc:Gl X cx) (mc:X.mg cx=some (.ref C)) (hl:∀p∈l,Gl X p.1/\X.mg p.1=some (.ref p.2.2)/\(p.1==("__debug__" : Str))=false) (hs:l.length<=sizeLine)
    (xi:sD X.K C D fI f) (k1:PySem.W.kitOne X.K (.ref C) (.ref C)=some true) (k2:PySem.W.kitOne X.K (.ref C) (.type "ValueError")=some true) (k3:PySem.W.kitAny X.K (.ref C) ((l.map λp=>p.2.2).map Value.ref)=some false) :
    ∃th:TS,pe (X.hx e) [.Assign [.Name x p1] (.Tuple [.Constant (.str "odd") j1 p2] t1 p3) p4,
      .If (.BoolOp .And [.Call (.Name "isinstance" p5) [.Name n p6,.Name cx p7] [] p8,.Call (.Name "isinstance" p9) [.Name n q1,.Name "ValueError" q2] [] q3] q4) [.Assign [.Name x q5] (.Tuple [.Constant (.str "no") j2 q6,.Attribute (.Name n q7) f q8] t2 q9) r1] [] r2,
      .If (.Call (.Name "isinstance" r3) [.Name n r4,.Tuple (l.map λp=>.Name p.1 p.2.1) t3 r5] [] r6) [.Assign [.Name x v1] (.Tuple [.Constant (.str "odd") j3 v2] t4 v3) v4] [] r7] th /\
      ∀(Z:Ends)(σ:L2.St)(H:Hp),σ.length=X.N.length->H e=some (XO e C dx)->H dx=some (.xd fs)->fs.lookup f=some (V.int k) ->
        (∀a b c,H a=none->bu H a (.tup [.str "odd"]) b=none->bu (bu H a (.tup [.str "odd"])) b (.tup [.str "no",.int k]) c=none ->
          Z.nx (((σ.set j (some (.ref e))).set i (some (.ref a))).set i (some (.ref b))) (bu (bu (bu H a (.tup [.str "odd"])) b (.tup [.str "no",.int k])) c (.tup (l.map λp=>V.ref p.2.2)))) ->
        th Z (σ.set j (some (.ref e))) H:=by
  simp only[EK]at nb;obtain⟨⟨n1,n2⟩,n3⟩:=nb
  let Y:=X.hx e
  have vn:∀{p:Pos},PE Y (.Name n p) (JN j):=g_ (X:=Y) hj (.inl hn) n1 n2
  have odd:∀{p1 p2 p3 p4:Pos}{j1 t1:Nat},PS Y (.Assign [.Name x p1] (.Tuple [.Constant (.str "odd") j1 p2] t1 p3) p4) (Fc (O2 (xE (tC (.str "odd")) Kc)) (xD i)) :=
    vF (X:=Y) hN hi (.inl hx) (mS (cF qv ff)) rfl (.inr hx)
  have pL:∀{a:Expr}{ta:TE}{p1 p2 p3:Pos},PE Y a ta->starEach [a] Y.env=[(false,eval a Y.env)]->PT Y (.Call (.Name "isinstance" p1) [.Name n p2,a] [] p3) (tB (R5 (PK Y.K) (xE (JN j) (xE ta Kc)))):=λha hs =>
    JP (fZ (X:=Y) Cg gi mi (nofun) (cF vn (cF ha ff hs)) (by decide) (by decide) rfl (by rw[hs];rfl))
  refine⟨_,hG odd (hG (Bp (Ha (pL (qw (X:=Y) (v:=.ref C) gc mc rfl n3) rfl) (pL (xB (X:=Y) (v:=.ty "ValueError") (u:=.type "ValueError") gv mv (nofun) rfl) rfl)) (jK (vF (X:=Y) hN hi (.inl hx) (mS (cF qv (cF (PL vn rfl) ff))) rfl (.inr hx))) qx) (jK (Bp (pL (mS (yp l hl)) rfl) (jK odd) qx))),?_⟩;intro Z σ H aJ he hd hf q;have jl:j<σ.length:=by rw[aJ];exact(bG.mp hj).1
  refine⟨(by show 1<=sizeLine;decide),λa na=>?_⟩;have e1:∀p,((σ.set j (some (V.ref e))).set i p)[j]?=some (some (.ref e)):=λp=>by rw[kH L8,mH jl]
  have ne1:e≠a:=cE he na;have Il:bu H a (.tup [.str "odd"]) e=some (XO e C dx):=by rw[aq ne1];exact he
  have SE:bu H a (.tup [.str "odd"]) dx=some (.xd fs):=by rw[aq (cE hd na)];exact hd
  refine⟨.ref e,e1 _,e,C,dx,D,fI,f,.ref C,true,rfl,Il,xi,.inl ⟨.ref C,rfl,k1⟩,true,rfl,?_⟩;refine Eq.mpr (aF rfl) ?_;refine⟨.ref e,e1 _,e,C,dx,D,fI,f,.ty "ValueError",true,rfl,Il,xi,.inl ⟨.type "ValueError",rfl,k2⟩,true,rfl,?_⟩;refine Eq.mpr (aF rfl) ?_;refine⟨.ref e,e1 _,e,C,D,fI,dx,fs,k,rfl,Il,xi,SE,hf,(by show 2<=sizeLine;decide),λb nb=>?_⟩;have e2:∀p r,(((σ.set j (some (V.ref e))).set i p).set i r)[j]?=some (some (.ref e)):=λp r=>by rw[kH L8];exact e1 p
  refine⟨.ref e,e2 _ _,(by rw[aB];exact hs),λc nc=>?_⟩;have ZZ:e≠b:=cE Il nb;have PF:bu (bu H a (.tup [.str "odd"])) b (.tup [.str "no",.int k]) e=some (XO e C dx):=by rw[aq ZZ];exact Il
  have Z0:e≠c:=cE PF nc;refine⟨e,C,dx,D,fI,f,.ref c,false,rfl,(by rw[aq Z0];exact PF),xi,.inr ⟨c,(l.map λp:Str×Pos×Addr=>p.2.2),rfl,(by rw[aS,y4];rfl),k3⟩,false,rfl,?_⟩;exact Eq.mpr (aP aY) (q a b c na nb nc)
def QQ(H:Hp)(a b c:Addr)(k:Int)(l:List Addr):Hp:=bu (bu (bu H a (.tup [.str "odd"])) b (.tup [.str "no",.int k])) c (.tup (l.map V.ref))
def Z2(C:Addr)(f:Str)(l:List Addr)(i j:Nat)(Z:Ends)(σ:L2.St):XK:=λcls dx H1=>∃d fs k,cls=.ref C/\dx=some d/\H1 d=some (.xd fs)/\fs.lookup f=some (V.int k) /\
 ∀e a b c,H1 a=none->bu H1 a (.tup [.str "odd"]) b=none->bu (bu H1 a (.tup [.str "odd"])) b (.tup [.str "no",.int k]) c=none->Z.nx ((((σ.set j (some (.ref e))).set i (some (.ref a))).set i (some (.ref b))).set j none) (QQ H1 a b c k l)
theorem L9 {C D fI B : Addr} {f x n cx cb fn : Str} {i j kk : Nat} {l : List (Str × Pos × Addr)} {fa : Addr} {fd : FuncData} {ps : List Str} {sp : Sp} {a0 : Expr} {as : List Expr} {ta : TA} {p1 p2 p3 p4 p5 p6 p7 p8 p9 q1 q2 q3 q4 q5 q6 q7 q8 q9 r1 r2 r3 r4 r5 r6 r7 v1 v2 v3 v4 s1 s2 s3 s4 s5 s6 s7 : Pos} {j1 j2 j3 t1 t2 t3 t4 : Nat}
    (xv:X.stack=X.env::X.outer/\X.env.frame=some X.env.locals) (hN:X.N.Nodup) (hi:X.N[i]?=some x) (hj:X.N[j]?=some n) (L8:i≠j) (hx:X.env.scope.names.lookup x=some .local) (hn:X.env.scope.names.lookup n=some .local) (nb:((n==("__debug__" : Str))||(n==("__classdict__" : Str))||(cx==("__debug__" : Str)))=false)
    (gi:Gl X "isinstance") (mi:X.mg "isinstance" = none) (gv:Gl X "ValueError") (mv:X.mg "ValueError" = none) (gc:Gl X cx) (mc:X.mg cx=some (.ref C)) (hl:∀p∈l,Gl X p.1/\X.mg p.1=some (.ref p.2.2)/\(p.1==("__debug__" : Str))=false) (hs:l.length<=sizeLine)
    (xi:sD X.K C D fI f) (k1:PySem.W.kitOne X.K (.ref C) (.ref C)=some true) (k2:PySem.W.kitOne X.K (.ref C) (.type "ValueError")=some true) (k3:PySem.W.kitAny X.K (.ref C) ((l.map λp=>p.2.2).map Value.ref)=some false)
    (gb:Gl X cb) (mb:X.mg cb=some (.ref B)) (nd:((cb==("__debug__" : Str))||(fn==("__debug__" : Str)))=false) (k4:PySem.W.kitCls X.K (.ref C) (.ref B)=some true) (k5:PySem.W.kitCls X.K (.ref B) (.type "BaseException")=some true)
    (F:dQ X.prog X.w X.K X.mg X.base (sC X.prog X.w) kk fa fd ps sp) (hr:eB kk X.A) (gf:Gl X fn) (mf:X.mg fn=some (.ref fa)) (hk:PySem.W.keepIn X.K (.ref fa)=true) (hb:Binds X.K fd ps [])
    (ha:PA X.Aq (a0::as) ta) (he:starEach (a0::as) X.env=(false,eval a0 X.env)::starEach as X.env) (jM:(backTo s5 (starEach as X.env)).any (·.1)=false) :
    PS X (.Try [.Assign [.Name x s1] (.Call (.Name fn s2) (a0::as) [] s5) s6] [.ExceptHandler (some (.Name cb s3)) (some n) [.Assign [.Name x p1] (.Tuple [.Constant (.str "odd") j1 p2] t1 p3) p4,
      .If (.BoolOp .And [.Call (.Name "isinstance" p5) [.Name n p6,.Name cx p7] [] p8,.Call (.Name "isinstance" p9) [.Name n q1,.Name "ValueError" q2] [] q3] q4) [.Assign [.Name x q5] (.Tuple [.Constant (.str "no") j2 q6,.Attribute (.Name n q7) f q8] t2 q9) r1] [] r2,
      .If (.Call (.Name "isinstance" r3) [.Name n r4,.Tuple (l.map λp=>.Name p.1 p.2.1) t3 r5] [] r6) [.Assign [.Name x v1] (.Tuple [.Constant (.str "odd") j3 v2] t4 v3) v4] [] r7] s4] [] [] s7)
      (λZ σ H=>ta σ H λvs H1=>sp vs H1 (λv H2=>Z.nx (σ.set i (some v)) H2) (Z2 C f (l.map λp=>p.2.2) i j Z σ)):=by
  intro ae s σ H Z I h;simp only[EK]at nd;refine wpAny_Try_except (wpAny_execs_cons (wpAny_Assign_Name (EN (jJ I gf mf ?_ nd.2)) rfl));refine PySem.W.callWith_K (h₀:=X.base) I.ok.mod.Ny hk (jb (ha s5 ae s σ H _ (I.kL _) h) (λus s1 ⟨vs,H1,I1,r,q⟩=>⟨I1.kB,?_⟩) λ_ _ z=>z.elim) he jM;have I1:=I1.fc;have aJ:us.length=ps.length:=by rw[<- r.length];exact F.len _ _ _ _ q
  refine wpAny_call (Bb (F.run X.A X.stack s1 H1 ⟨us,[]⟩ us vs _ _ hr I1.Ke (by have:=hb s1 us I1.kB (by rw[oK];exact aJ);rw[oK]at this;exact this) r q) λr s2 hq=>?_)
  cases r with
  | error e =>
    obtain⟨ea,C',dx,T,H2,rfl,os,bare,un,bw,xa,Xj,hT,hE⟩:=hq;obtain⟨d,fs,k,ec,ed,hd,hf,hz⟩:=hE;cases ec;cases ed;have I2:Inv X ae σ H2 s2:=I1.Bj os un bw bare (λb z=>absurd z (by simp));obtain⟨th,Z3,Z4⟩:=Dg (e:=ea) (dx:=dx) (fs:=fs) (k:=k) (p1:=p1) (p2:=p2) (p3:=p3) (p4:=p4) (p5:=p5) (p6:=p6) (p7:=p7) (p8:=p8) (p9:=p9) (q1:=q1) (q2:=q2) (q3:=q3) (q4:=q4) (q5:=q5) (q6:=q6) (q7:=q7) (q8:=q8) (q9:=q9) (r1:=r1) (r2:=r2) (r3:=r3) (r4:=r4) (r5:=r5) (r6:=r6) (r7:=r7) (v1:=v1) (v2:=v2) (v3:=v3) (v4:=v4) (j1:=j1) (j2:=j2) (j3:=j3) (t1:=t1) (t2:=t2) (t3:=t3) (t4:=t4) hN hi hj L8 hx hn nb gi mi gv mv gc mc hl hs xi k1 k2 k3;have xb:=xa;obtain⟨le,oe,vs',g1,_⟩:=xb;have l2:s1.heap.objs.size<=s2.heap.objs.size:=bJ le (kJ (bP g1));have lT:s1.heap.objs.size<=T:=by obtain⟨_,_,_,_,_,_,_,_,_,z,_⟩:=xa;exact z
    refine vW I2 xv xa Xj (ni.new I1 lT hT) l2 gb mb nd.1 k4 k5 hN hj hn Z3 ?_;refine Z4 _ σ H2 I2.len Xj hd hf λa b c na nb nc=>?_;have z:=hz ea a b c na nb nc;unfold QQ at z;rw[y4]at z;exact z
  | ok fl =>
    cases fl with
    | next=>exact hq.elim
    | brk=>exact hq.elim
    | cont=>exact hq.elim
    | ret u =>
      obtain⟨v,H2,I2,rv,q2⟩:=I1.after hq;exact jI I2 hN hi (.inl hx) rv (λs3 I3=>AS (AS ⟨_,H2,I3,q2⟩)) (.inr hx)
end
theorem bW.lookup{K:Frag}{ads:List Addr}{H:Hp}{f:Str}{d:D}:∀{xs:List (Str×D)}{ys:List (Str×V)},bW K ads H xs ys->xs.lookup f=some d->∃v,ys.lookup f=some v/\RD K ads H d v
 | [],_,_,e=>nomatch e
 | p::xs,ys,h,e=>by
  unfold bW at h;obtain⟨x,r,rfl,h0,h1,h2⟩:=h;obtain⟨a,b⟩:=p;obtain⟨a',v⟩:=x;obtain rfl:a=a':=h0;by_cases q:f=a
  ·subst q;simp only[e_,mJ]at e⊢;cases e;exact⟨v,rfl,h1⟩
  ·have q:(f==a)=false:=by simpa using q
   simp only[e_,q]at e⊢;exact bW.lookup h2 e
def kc(C:Addr)(f:Str)(F:List D->ag->bS W)(ds:List D)(M:ag):bS W:=match (F ds M).bind own with
 | .ok d M=>.ok (.d d) M
 | .err x M=>if x.cls=C then (match x.fs.lookup f with
  | some (.int i)=>.ok (.d (.tup [.str "no",.int i])) M
  | _=>.af) else .af
 | .af=>.af
noncomputable def Xk(sc:Scope)(L G:List Str):Bool:=L.all (λy=>sc.names.lookup y==some .local && !(y==("__debug__" : Str)) && !(y==("__classdict__" : Str)))&&G.all λy=>sc.names.lookup y==some .globalImplicit && !(y==("__debug__" : Str))
theorem Hb {P : Program} {w : World} {K : Frag} {mg : Str -> Option Value} {base : Heap} {nm qual : Str} {st : Stmt} {ga fa : Addr} {gd fd : FuncData} {ps : List Str} {C Da fI B : Addr} {f a1 a2 a3 x n cx cb fn : Str} {k : Nat} {Fd : List D -> ag -> bS W} {l : List (Str × Pos × Addr)} {p1 p2 p3 p4 p5 p6 p7 p8 p9 q1 q2 q3 q4 q5 q6 q7 q8 q9 r1 r2 r3 r4 r5 r6 r7 v1 v2 v3 v4 s1 s2 s3 s4 s5 s6 s7 u1 u2 u3 u4 u5 u6 u7 u8 : Pos} {j1 j2 j3 t1 t2 t3 t4 t5 : Nat}
    (Fn:NG K nm qual st ga gd) (Sc:gA [a1,a2,a3,x,n] [a1,a2,a3] (aI st)) (B8:cv st=[.Assign [.Name x u1] (.Tuple [] t5 u2) u3,.Try [.Assign [.Name x s1] (.Call (.Name fn s2) [.Name a1 u4,.Name a2 u5,.Name a3 u6] [] s5) s6] [.ExceptHandler (some (.Name cb s3)) (some n) [.Assign [.Name x p1] (.Tuple [.Constant (.str "odd") j1 p2] t1 p3) p4,
      .If (.BoolOp .And [.Call (.Name "isinstance" p5) [.Name n p6,.Name cx p7] [] p8,.Call (.Name "isinstance" p9) [.Name n q1,.Name "ValueError" q2] [] q3] q4) [.Assign [.Name x q5] (.Tuple [.Constant (.str "no") j2 q6,.Attribute (.Name n q7) f q8] t2 q9) r1] [] r2,
      .If (.Call (.Name "isinstance" r3) [.Name n r4,.Tuple (l.map λp=>.Name p.1 p.2.1) t3 r5] [] r6) [.Assign [.Name x v1] (.Tuple [.Constant (.str "odd") j3 v2] t4 v3) v4] [] r7] s4] [] [] s7,.Return (some (.Name x u7)) u8])
    (tb:Xk (aI st) [a1,a2,a3,x,n] (fn::cb::cx :: "isinstance" :: "ValueError" :: l.map λp=>p.1)=true) (mi:mg "isinstance" = none) (mv:mg "ValueError" = none) (mc:mg cx=some (.ref C)) (mb:mg cb=some (.ref B)) (ml:∀p∈l,mg p.1=some (.ref p.2.2)) (hs:l.length<=sizeLine)
    (xi:sD K C Da fI f) (k1:PySem.W.kitOne K (.ref C) (.ref C)=some true) (k2:PySem.W.kitOne K (.ref C) (.type "ValueError")=some true) (k3:PySem.W.kitAny K (.ref C) ((l.map λp=>p.2.2).map Value.ref)=some false) (k4:PySem.W.kitCls K (.ref C) (.ref B)=some true) (k5:PySem.W.kitCls K (.ref B) (.type "BaseException")=some true)
    (F:dQ P w K mg base (sC P w) k fa fd ps (Ax K 3 Fd)) (mf:mg fn=some (.ref fa)) (hk:PySem.W.keepIn K (.ref fa)=true) (hb:Binds K fd ps []):dQ P w K mg base (sC P w) (k+1) ga gd [a1,a2,a3] (Ax K 3 (kc C f Fd)):=by
  unfold Xk at tb;simp only[aR,sQ,iI,i4]at tb;obtain⟨tl,tg⟩:=tb;have VC:=tl a1 (by simp);have VD:=tl a2 (by simp);have VF:=tl a3 (by simp);have lx:=tl x (by simp);have ln:=tl n (by simp);have g1:=tg fn (by simp);have g2:=tg cb (by simp);have g3:=tg cx (by simp);have g4:=tg "isinstance" (by simp);have g5:=tg "ValueError" (by simp);obtain⟨oc,od,kV,doc,pm,an,lU,ct,Ei,rfl,lk,Ap⟩:=Fn.ex;refine BF lk Ap Sc (λvs H Q E h=>?_) λA outer s H vs Q E hr uZ=>?_
  · obtain⟨ads,M,ds,m,r,hl,_⟩:=h;rw[<- r.len,hl];rfl
  · let X:=qE (sC P w) P w K mg base [a1,a2,a3,x,n] qual (aI st) ga lU A outer s H E
    have nd:X.N.Nodup:=Sc.nd
    refine⟨_,by
      rw[B8]
      exact hG (vF (X:=X) (i:=3) nd rfl (.inl lx.1.1) (mS ff) rfl (.inr lx.1.1)) (hG (L9 (X:=X) (i:=3) (j:=4) ⟨rfl,rfl⟩ nd rfl rfl (by decide) lx.1.1 ln.1.1 (by rw[ln.1.2,ln.2,g3.2];rfl) g4.1 mi g5.1 mv g3.1 mc (λp hp=>⟨(tg p.1 (by simp only[bT,fK];exact .inr (.inr (.inr (.inr (.inr ⟨p,hp,rfl⟩)))))).1,ml p hp,(tg p.1 (by simp only[bT,fK];exact .inr (.inr (.inr (.inr (.inr ⟨p,hp,rfl⟩)))))).2⟩) hs xi k1 k2 k3 g2.1 mb (by rw[g2.2,g1.2];rfl) k4 k5 F hr g1.1 mf hk hb
        (cF (g_ (X:=X.Aq) (i:=0) rfl (.inl VC.1.1) VC.1.2 VC.2) (cF (g_ (X:=X.Aq) (i:=1) rfl (.inl VD.1.1) VD.1.2 VD.2) (cF (g_ (X:=X.Aq) (i:=2) rfl (.inl VF.1.1) VF.1.2 VF.2) ff))) rfl rfl)
        (jK (Bo (g_ (X:=X) (i:=3) rfl (.inl lx.1.1) lx.1.2 lx.2)))),?_⟩
    obtain⟨ads,M,ds,m,r,hl,q⟩:=uZ;have hv:vs.length=3:=by rw[<- r.len,hl]
    rcases vs with _|⟨v1,_|⟨v2,_|⟨v3,_|⟨v4,vs⟩⟩⟩⟩<;>first | (simp at hv;done) | skip
    refine⟨(by show 0<=sizeLine;decide),λp hp=>?_⟩;have g0:=ay.dR (o:=.tup []) m hp;have m0:=m.dR (o:=.tup []) hp;refine⟨v1,rfl,v2,rfl,v3,rfl,ads,M,ds,m0,g0.oV _ _ r,hl,?_⟩;unfold kc at q
    cases hF:Fd ds M with
    | af=>rw[hF]at q;exact q
    | ok u M1 =>
      rw[hF]at q
      have q:@cC (vY E) K ads H Q (match own u M1 with
        | .ok d M=>.ok (.d d) M
        | .err x M=>if x.cls=C then (match x.fs.lookup f with
          | some (.int i)=>.ok (.d (.tup [.str "no",.int i])) M
          | _=>.af) else .af
        | .af=>.af):=q
      cases ho:own u M1 with
      | err _ _=>cases u<;>cases ho
      | af=>cases u<;>cases ho
      | ok d M2 =>
        rw[ho]at q;intro v H2 bU g2 m2 Z5;obtain⟨d5,g3,m3,rd⟩:=nH m0 g2 m2 Z5 ho;exact⟨v,rfl,q v H2 d5 (g0.trans g3) m3 rd⟩
    | err y M1 =>
      rw[hF]at q
      have q : @cC (vY E) K ads H Q (if y.cls = C then (match y.fs.lookup f with
          | some (.int i)=>.ok (.d (.tup [.str "no",.int i])) M1
          | _=>.af) else .af):=q
      split at q
      · rename_i hC
        split at q
        · rename_i i hi
          intro H2 bU dx fs g2 m2 hd rk;obtain⟨v,lv,rv⟩:=rk.lookup hi;obtain rfl:v=.int i:=by unfold RD at rv;exact rv
          refine⟨dx,fs,i,by rw[hC],rfl,hd,lv,λe a b c na nb nc=>?_⟩;have h1:=ay.dR (o:=.tup [.str "odd"]) m2 na;have k1:=m2.dR (o:=.tup [.str "odd"]) na;have h2:=ay.dR (o:=.tup [.str "no",.int i]) k1 nb;have k2:=k1.dR (o:=.tup [.str "no",.int i]) nb;have h3:=ay.dR (o:=.tup ((l.map λp=>p.2.2).map V.ref)) k2 nc;have k3:=k2.dR (o:=.tup ((l.map λp=>p.2.2).map V.ref)) nc;refine⟨.ref b,rfl,q (.ref b) _ bU ((((g0.trans g2).trans h1).trans h2).trans h3) k3 ?_⟩;show RD K bU _ (.tup [.str "no",.int i]) (.ref b);unfold RD;refine⟨b,_,rfl,h3.eW b _ aS,?_⟩;unfold aV;refine⟨.str "no",[.int i],rfl,by unfold RD;rfl,?_⟩;unfold aV;exact⟨.int i,[],rfl,by unfold RD;rfl,by unfold aV;rfl⟩
        · exact q.elim
      · exact q.elim
theorem sD.of{K:Frag}{C Da fI N:Addr}{f:Str}{nm q:Str}{bs sub:List Value}{sn:List Str}{ab:Bool}{pH:Option Bool}{dd de:Option Addr}{k0 k1 k2 k3 k5:Option Value}{c0:Value}{cd:ClassData}{sl:Array (Option Value)} (l1:K.lookup C=some (excClassObj nm q C N bs (.ref Da::VE) true sn sub ab pH dd k0 k1 k2 k3 k5 "ValueError.__new__")) (o1:PySem.W.nsOkIn K N=true) (i1:PySem.W.nsIn K N "__init__" = some (some (.ref fI))) (n1:((f::fh).all λn=>match PySem.W.nsIn K N n with | some none=>true | _=>false)=true) (l2:K.lookup Da=some {cls:=c0,dict:=de,data:=.cls cd,slots:=sl}) (o2:PySem.W.nsOkIn K cd.ns=true) (n2:((("__init__" : Str)::f::fh).all λn=>match PySem.W.nsIn K cd.ns n with | some none=>true | _=>false)=true) (ve:typeLookup (.type "ValueError") f=pure none):sD K C Da fI f:=by
 have al:∀{M:Addr}{l:List Str},(l.all λn=>match PySem.W.nsIn K M n with | some none=>true | _=>false)=true->∀n∈l,PySem.W.nsIn K M n=some none:=λ{M l} z n hn=>by
  have q:=sQ.mp z n hn;split at q
  ·assumption
  ·cases q
 exact⟨⟨nm,q,N,bs,sn,sub,ab,pH,dd,k0,k1,k2,k3,k5,l1,o1,i1,al n1⟩,⟨c0,de,cd,sl,l2,o2,al n2⟩,ve⟩
theorem z6:typeLookup (.type "ValueError") "number" = pure none:=by rw[typeLookup_type,Jp];kernel_rfl
section
variable [er:Er]
abbrev Fn:=List D->ag->bS W
noncomputable def Fr(w:Nat)(M M':ag):Prop:=M.length<=M'.length/\∀n,n<M.length->n≠w->M'[n]?=M[n]?
abbrev Ex(M M':ag):Prop:=Fr M.length M M'
theorem aT{M:ag}{n:Nat}{o:MO}(h:M[n]?=some o):n<M.length:=(bG.mp h).1
theorem aG{M X:ag}{n:Nat}{o:MO}(h:M[n]?=some o):(M++X)[n]?=some o:=by rw[kG (aT h)];exact h
theorem av{M:ag}{o:MO}:(M++[o])[M.length]?=some o:=by simp
theorem bh{M:ag}{n m:Nat}{o u:MO}(h:M[n]?=some o)(hn:n≠m):(M.set m u)[n]?=some o:=by rw[kH (cN hn)];exact h
theorem bC{M:ag}{n:Nat}{o u:MO}(h:M[n]?=some o):(M.set n u)[n]?=some u:=mH (aT h)
theorem Fr.refl(w:Nat)(M:ag):Fr w M M:=⟨aE _,λ_ _ _=>rfl⟩
theorem Fr.trans{w:Nat}{M M1 M2:ag}(a:Fr w M M1)(b:Fr w M1 M2):Fr w M M2:=⟨bJ a.1 b.1,λn h k=>(b.2 n (fH h a.1) k).trans (a.2 n h k)⟩
theorem Fr.app{w:Nat}{M M1 X:ag}(a:Fr w M M1):Fr w M (M1++X):=⟨by have:=a.1;simp only[dz];omega,λn h k=>by rw[kG (fH h a.1)];exact a.2 n h k⟩
theorem Fr.set{w n:Nat}{M M1:ag}{o:MO}(a:Fr w M M1)(h:M.length<=n):Fr w M (M1.set n o):=⟨by rw[ja];exact a.1,λm hm k=>by rw[kH ∅];exact a.2 m hm k⟩
theorem Fr.VG{w:Nat}{M M1:ag}{o:MO}(a:Fr w M M1):Fr w M (M1.set w o):=⟨by rw[ja];exact a.1,λm hm k=>by rw[kH (cN k)];exact a.2 m hm k⟩
theorem Fr.get{w n:Nat}{M M1:ag}{o:MO}(a:Fr w M M1)(h:M[n]?=some o)(k:n≠w):M1[n]?=some o:=(a.2 n (aT h) k).trans h
theorem Fr.back{w v:Nat}{M M1 M2:ag}(a:Fr w M M1)(b:Fr v M1 M2)(h:M.length<=v\/v=w):Fr w M M2:=⟨bJ a.1 b.1,λn hn k=>(b.2 n (fH hn a.1) ∅).trans (a.2 n hn k)⟩
theorem Ex.refl(M:ag):Ex M M:=Fr.refl _ M
theorem Ex.get{n:Nat}{M M1:ag}{o:MO}(a:Ex M M1)(h:M[n]?=some o):M1[n]?=some o:=Fr.get a h (eK (aT h))
theorem Ex.trans{M M1 M2:ag}(a:Ex M M1)(b:Ex M1 M2):Ex M M2:=Fr.back a b (.inl a.1)
theorem Fr.ex{w:Nat}{M M1 M2:ag}(a:Fr w M M1)(b:Ex M1 M2)(h:w<M.length\/M.length<=w):Fr w M M2:=Fr.back a b (.inl a.1)
section
variable {M:ag} {n:Nat} {ds:List D} {i:Int} {x:D}
theorem yq(hi:0<=i)(h:ds[i.toNat]?=some x):Sl ds i=some x:=by
 have hl:=(bG.mp h).1;unfold Sl xH BQ;rw[aF hi,aF ∅];exact h
theorem bN(hM:M[n]?=some (.lst ds))(hi:0<=i)(h:ds[i.toNat]?=some x):dh (.d (.aw n)) (.d (.int i)) M=.ok (.d x) M:=by
 unfold dh bF;simp only[hM,yq hi h]
theorem rH(hi:0<=i)(h:ds[i.toNat]?=some x):dh (.lv ds) (.d (.int i)) M=.ok (.d x) M:=by
 unfold dh bF;simp only[yq hi h]
theorem mq(hi:0<=i)(h:ds[i.toNat]?=some x):dh (.d (.tup ds)) (.d (.int i)) M=.ok (.d x) M:=by
 unfold dh bF;simp only[yq hi h]
theorem Dh{m:Nat}(h:ds[m]?=some x):dh (.d (.tup ds)) (.d (.int m)) M=.ok (.d x) M:=mq (Int.natCast_nonneg m) (by rw[yT];exact h)
theorem cV{m:Nat}(hM:M[n]?=some (.lst ds))(h:ds[m]?=some x):dh (.d (.aw n)) (.d (.int m)) M=.ok (.d x) M:=bN hM (Int.natCast_nonneg m) (by rw[yT];exact h)
theorem L_(hi:0<=i)(h:ds[i.toNat]?=some x):dh (.d (.ls ds)) (.d (.int i)) M=.ok (.d x) M:=by
 unfold dh bF;simp only[yq hi h]
theorem dr(hM:M[n]?=some (.lst ds))(hl:ds.length<sizeLine):v8 .append (.d (.aw n)) [x] M=.ok (.d .aL) (M.set n (.lst (ds++[x]))):=by
 unfold v8;simp only[hM,aF hl]
theorem uy(hM:M[n]?=some (.lst ds))(hl:ds.length<sizeLine)(h0:0<=i)(h1:i<=ds.length):v8 .insert (.d (.aw n)) [.int i,x] M=.ok (.d .aL) (M.set n (.lst (ds.take i.toNat++x::ds.drop i.toNat))):=by
 unfold v8;simp only[hM];rw[aF ⟨hl,h0,h1⟩]
theorem cK(hM:M[n]?=some (.lst ds)):(fi M (.d (.aw n))).isSome=true:=by unfold fi;simp only[hM];rfl
theorem eZ(hM:M[n]?=some (.lst ds)):iL .len [.d (.aw n)] M=.ok (.d (.int ds.length)) M:=by unfold iL bF;simp only[hM]
theorem bO(hM:M[n]?=some (.lst ds)):iL .tuple1 [.d (.aw n)] M=.ok (.d (.tup ds)) M:=by unfold iL bF;simp only[hM]
theorem nP(hM:M[n]?=some (.lst ds)):iL .list1 [.d (.aw n)] M=.ok (.lv ds) M:=by unfold iL bF;simp only[hM]
theorem fu(hM:M[n]?=some (.lst ds)):jT .seq [.d (.aw n)] M=.ok (.at n) M:=by
 unfold jT bF;simp only[hM];rfl
theorem rJ(hM:M[n]?=some (.lst ds)):dj M (.at n)=ds.length:=by unfold dj;simp only[hM]
theorem mr{m:Nat}(hM:M[n]?=some (.lst ds))(hm:m<ds.length):ic (.d (.aw n)) (.d (.int m)) x M=.ok () (M.set n (.lst (ds.set m x))):=by
 unfold ic;simp only[hM]
 have:BQ ds.length (m:Int)=some m:=by
  unfold BQ;rw[aF ∅,aF ∅];simp
 simp only[this]
theorem nQ(hM:M[n]?=some (.lst ds))(hi:0<=i)(hm:i.toNat<ds.length):ic (.d (.aw n)) (.d (.int i)) x M=.ok () (M.set n (.lst (ds.set i.toNat x))):=by
 have:=mr (x:=x) hM hm;rw[show((i.toNat:Nat):Int)=i by omega]at this;exact this
end
theorem nR{n:Nat}(h:n<=1000):n<=sizeLine:=bJ h (by decide)
theorem bq{n:Nat}(h:n<=1000):n<sizeLine:=Nat.lt_of_le_of_lt h (by decide)
theorem cM{α:Type}{l:List α}{k:Nat}{x:α}(h:l[k]?=some x):l.take (k+1)=l.take k++[x]:=by
 rw[List.take_add_one,h];rfl
theorem ir{x:Str}(h:PyData.strOk x=true):SeqAt.shaped (.str x)=true:=by
 unfold SeqAt.shaped;rw[yR,h,yV];rfl
theorem yt{x y:Str}:PyData.eqv (.str x) (.str y)=(x==y):=PyData.eqv.eq_6 x y
theorem Di{M:ag}{x:Str}:gS M (.d (.str x))=some (.str x):=by show cB M 30 (.str x)=_;unfold cB;rfl
theorem bo{M:ag}{x y:Str}(hx:PyData.strOk x=true)(hy:PyData.strOk y=true):aZ .eq (.d (.str x)) (.d (.str y)) M=.ok (x==y) M:=by
 unfold aZ;simp only[Di,ir hx,ir hy,jc,dA,yt]
theorem lJ{M:ag}{x y:Str}(hx:PyData.strOk x=true)(hy:PyData.strOk y=true):aZ .ne (.d (.str x)) (.d (.str y)) M=.ok (!(x==y)) M:=by
 unfold aZ;simp only[Di,ir hx,ir hy,jc,dA,yt]
section
variable {G:a_} {b:List S} {tg:List Nat} {ρ:En} {M:ag} {nx:En->ag->Prop} {rt:W->ag->Prop} {bk ct:En->ag->Prop}
theorem iX{lo:Int}{n:Nat}(I:Nat->En->ag->Prop)(h0:I 0 ρ M)(hs:∀i ρ M,i<n->I i ρ M->C9 (bH tg (.int (lo+i)) ρ) λρ=>du G b ρ M (I (i+1)) rt nx (I (i+1)))(he:∀ρ M,I n ρ M->nx ρ M):eY (dq (λρ M=>cH G b ρ M) (.lB lo n) tg n 0 ρ M) nx rt bk ct:=by
 have aJ:((List.range n).map λi=>D.int (lo+(i:Nat))).length=n:=by simp
 refine jv (ds:=(List.range n).map λi=>D.int (lo+(i:Nat))) I (λi ρ M _ hi=>?_) (λi ρ M d h e=>?_) (λρ M h=>he ρ M (by rw[aJ]at h;exact h)) n 0 ρ M h0 (by rw[aJ];omega)
 ·rw[aJ]at hi;show some (if i<n then some (D.int (lo+i)) else none)=_;by_cases q:i<n
  ·rw[aF q];simp[q]
  ·rw[aP q,EF (by rw[aJ];omega)]
 ·have hi:i<n:=by have:=(bG.mp e).1;rw[aJ]at this;exact this
  have:d=.int (lo+i):=by rw[c_,AI hi]at e;exact(cR e).symm
  subst this;have q:=hs i ρ M hi h
  cases e2:bH tg (.int (lo+i)) ρ with
  | none=>rw[e2]at q;exact q.elim
  | some eg=>rw[e2]at q;exact⟨eg,rfl,by rw[rG];exact q⟩
theorem mw{ds:List D}(I:Nat->En->ag->Prop)(h0:I 0 ρ M)(hs:∀i ρ M d,ds[i]?=some d->I i ρ M->C9 (bH tg d ρ) λρ=>du G b ρ M (I (i+1)) rt nx (I (i+1)))(he:∀ρ M,I ds.length ρ M->nx ρ M):eY (dq (λρ M=>cH G b ρ M) (.items ds) tg ds.length 0 ρ M) nx rt bk ct :=
 jv (ds:=ds) I (λi ρ M _ _=>rfl) (λi ρ M d h e=>by
  have q:=hs i ρ M d e h
  cases e2:bH tg d ρ with
  | none=>rw[e2]at q;exact q.elim
  | some eg=>rw[e2]at q;exact⟨eg,rfl,by rw[rG];exact q⟩) he ds.length 0 ρ M h0 ∅
theorem Ma{n:Nat}{ds:List D}(I:Nat->En->ag->Prop)(hM:∀i ρ M,I i ρ M->M[n]?=some (.lst ds))(h0:I 0 ρ M)(hs:∀i ρ M d,ds[i]?=some d->I i ρ M->C9 (bH tg d ρ) λρ=>du G b ρ M (I (i+1)) rt nx (I (i+1)))(he:∀ρ M,I ds.length ρ M->nx ρ M):eY (dq (λρ M=>cH G b ρ M) (.at n) tg (dj M (.at n)) 0 ρ M) nx rt bk ct:=by
 rw[rJ (hM 0 ρ M h0)]
 exact jv (ds:=ds) I (λi ρ M h _=>by unfold itemAt;simp only[hM i ρ M h]) (λi ρ M d h e=>by
  have q:=hs i ρ M d e h
  cases e2:bH tg d ρ with
  | none=>rw[e2]at q;exact q.elim
  | some eg=>rw[e2]at q;exact⟨eg,rfl,by rw[rG];exact q⟩) he ds.length 0 ρ M h0 ∅
theorem Mb{ds:List D}(I:Nat->En->ag->Prop)(h0:I 0 ρ M)(hs:∀i ρ M d,ds[i]?=some d->I i ρ M->C9 (bH tg (.tup [.int i,d]) ρ) λρ=>du G b ρ M (I (i+1)) rt nx (I (i+1)))(he:∀ρ M,I ds.length ρ M->nx ρ M):eY (dq (λρ M=>cH G b ρ M) (.gE ds) tg ds.length 0 ρ M) nx rt bk ct:=by
 have aJ:(ds.mapIdx λi d=>D.tup [.int (i:Nat),d]).length=ds.length:=by simp
 refine jv (ds:=ds.mapIdx λi d=>D.tup [.int (i:Nat),d]) I (λi ρ M _ _=>?_) (λi ρ M d h e=>?_) (λρ M h=>he ρ M (by rw[aJ]at h;exact h)) ds.length 0 ρ M h0 (by rw[aJ];omega)
 ·show some (ds[i]?.map λd=>D.tup [.int i,d])=_;rw[EL]
 ·rw[EL]at e
  cases e3:ds[i]? with
  | none=>rw[e3]at e;cases e
  | some d' =>
   rw[e3]at e;cases e;have q:=hs i ρ M d' e3 h
   cases e2:bH tg (.tup [.int i,d']) ρ with
   | none=>rw[e2]at q;exact q.elim
   | some eg=>rw[e2]at q;exact⟨eg,rfl,by rw[rG];exact q⟩
end
theorem nS:∀(tg:List Nat)(ds:List D)(ρ:En)(i:Nat)(o:Option D),i∉tg->dY tg ds (ρ.set i o)=(dY tg ds ρ).map (·.set i o)
 | [],[],_,_,_,_=>rfl
 | [],_::_,_,_,_,_=>rfl
 | _::_,[],_,_,_,_=>rfl
 | j::tg,d::ds,ρ,i,o,h=>by
  have h1:i≠j:=λz=>h (by rw[z];exact ez);show dY tg ds ((ρ.set i o).set j (some d))=_;rw[List.set_comm _ _ h1,nS tg ds _ i o λz=>h (dP _ z)];rfl
theorem gM:∀(tg:List Nat)(ds es:List D)(ρ eg:En),tg.Nodup->dY tg ds ρ=some eg->dY tg es eg=dY tg es ρ
 | [],[],[],_,_,_,e=>by cases e;rfl
 | [],[],_::_,_,_,_,e=>by cases e;rfl
 | [],_::_,_,_,_,_,e=>by cases e
 | _::_,[],_,_,_,_,e=>by cases e
 | j::tg,d::ds,[],ρ,eg,n,e=>rfl
 | j::tg,d::ds,f::es,ρ,eg,n,e=>by
  have n1:=AV.mp n;have e:dY tg ds (ρ.set j (some d))=some eg:=e;show dY tg es (eg.set j (some f))=dY tg es (ρ.set j (some f));have e2:=nS tg ds (ρ.set j (some d)) j (some f) n1.1;rw[e,List.set_set]at e2;exact gM tg ds es _ _ n1.2 e2
theorem uA{tg:List Nat}{d e:D}{ρ eg:En}(n:tg.Nodup)(h:bH tg d ρ=some eg):bH tg e eg=bH tg e ρ:=by
 match tg,n,h with
 | [i],_,h =>
  have h:some (ρ.set i (some d))=some eg:=h;cases h;show some ((ρ.set i (some d)).set i (some e))=some (ρ.set i (some e));rw[List.set_set]
 | [],_,h =>
  cases d<;>first | cases h | skip
  cases e<;>first | rfl | skip
  exact gM [] _ _ _ _ List.nodup_nil h
 | i::j::tg,n,h =>
  cases d<;>first | cases h | skip
  cases e<;>first | rfl | skip
  exact gM (i::j::tg) _ _ _ _ n h
end
section
variable {ee:vX->ag->Prop} {G:a_} {cond:Option eN} {elt:C} {tg:List Nat} {ρ:En} {M:ag} {P:W->ag->Prop}
theorem kg{it:It}{ds:List D}(I:Nat->ag->List D->Prop)(n:tg.Nodup)(hit:∀i M acc,I i M acc->i<=ds.length->itemAt M i it=some ds[i]?)(h0:I 0 M [])(hs:∀i M acc d,ds[i]?=some d->I i M acc->acc.length<sizeLine/\C9 (bH tg d ρ) λτ=>j_ G cond τ M λr M=>if r=true then wE G elt τ M λw M=>eI (own w M) λx M=>I (i+1) M (acc++[x]) else I (i+1) M acc)(he:∀M acc,I ds.length M acc->P (.lv acc) M){k:Nat}(hk:k=ds.length):@aH ⟨ee⟩ _ (bc (λτ M=>bI G cond τ M) (λτ M=>(ev G elt τ M).bind own) it tg k 0 ρ M []) P:=by
 subst hk;refine rF (er:=⟨ee⟩) (ds:=ds) (λi τ M acc=>I i M acc/\(τ=ρ\/∃d,bH tg d ρ=some τ)) (λi τ M acc h hi=>hit i M acc h.1 hi) (λi τ M acc d h e=>?_) (λτ M acc h=>he M acc h.1) ds.length 0 ρ M [] ⟨h0,.inl rfl⟩ ∅;obtain⟨q1,q2⟩:=hs i M acc d e h.1
 have hb:bH tg d τ=bH tg d ρ:=by
  rcases h.2 with z | ⟨d',z⟩
  ·rw[z]
  ·exact uA n z
 refine⟨q1,?_⟩
 cases e2:bH tg d ρ with
 | none=>rw[e2]at q2;exact q2.elim
 | some IE =>
  rw[e2]at q2;refine⟨IE,by rw[hb,e2],?_⟩;have q2:j_ G cond IE M (λr M=>if r=true then wE G elt IE M λw M=>eI (own w M) λx M=>I (i+1) M (acc++[x]) else I (i+1) M acc):=q2;rw[<- w_cond]at q2;refine q2.imp λr M1 q3=>?_
  cases r with
  | true =>
   rw[aF rfl]at q3⊢;rw[ux];rw[<- ux]at q3⊢;exact q3.imp λx M2 q4=>⟨q4,.inr ⟨d,e2⟩⟩
  | false =>
   rw[aP (by simp)]at q3⊢;exact⟨q3,.inr ⟨d,e2⟩⟩
theorem uB{it:It}{ds:List D}(f:D->Option D)(n:tg.Nodup)(hit:∀M',Ex M M'->∀i,i<=ds.length->itemAt M' i it=some ds[i]?)(hl:ds.length<=sizeLine)(hs:∀(i:Nat) M' d,ds[i]?=some d->Ex M M'->C9 (bH tg d ρ) λτ=>j_ G cond τ M' λr M1=>if r=true then wE G elt τ M1 λw M1=>eI (own w M1) λx M1=>f d=some x/\Ex M M1 else f d=none/\Ex M M1)(he:∀M',Ex M M'->P (.lv (ds.filterMap f)) M'){k:Nat}(hk:k=ds.length):@aH ⟨ee⟩ _ (bc (λτ M=>bI G cond τ M) (λτ M=>(ev G elt τ M).bind own) it tg k 0 ρ M []) P:=by
 refine kg (ee:=ee) (ds:=ds) (λi M' acc=>Ex M M'/\acc=(ds.take i).filterMap f) n (λi M' acc h hi=>hit M' h.1 i hi) ⟨Ex.refl M,rfl⟩ ?_ (λM' acc h=>?_) hk
 ·rintro i M' acc d hd ⟨h1,rfl⟩;have hi:=(bG.mp hd).1;refine⟨?_,?_⟩
  ·have:=EC f (ds.take i);rw[dg]at this;omega
  ·have q:=hs i M' d hd h1
   have e:∀o,f d=o->(ds.take (i+1)).filterMap f=(ds.take i).filterMap f++o.toList:=λo ho=>by
    rw[cM hd,EG];cases o<;>simp[jD,ho]
   cases e2:bH tg d ρ with
   | none=>rw[e2]at q;exact q.elim
   | some IE =>
    rw[e2]at q;have q:j_ G cond IE M' (λr M1=>if r=true then wE G elt IE M1 λw M1=>eI (own w M1) λx M1=>f d=some x/\Ex M M1 else f d=none/\Ex M M1):=q;show j_ G cond IE M' (λr M1=>if r=true then wE G elt IE M1 λw M1=>eI (own w M1) λx M1=>Ex M M1/\(ds.take i).filterMap f++[x]=(ds.take (i+1)).filterMap f else Ex M M1/\(ds.take i).filterMap f=(ds.take (i+1)).filterMap f);rw[<- w_cond]at q⊢;refine q.imp λr M1 q3=>?_
    cases r with
    | true =>
     rw[aF rfl]at q3⊢;rw[<- ux]at q3⊢;exact q3.imp λx M2 q4=>⟨q4.2,by rw[e _ q4.1];rfl⟩
    | false =>
     rw[aP (by simp)]at q3⊢;exact⟨q3.2,by rw[e _ q3.1];simp⟩
 ·obtain⟨h1,rfl⟩:=h;rw[jE];exact he M' h1
theorem Dj{M:ag}{ds:List D}:∀M',Ex M M'->∀i,i<=ds.length->itemAt M' i (.items ds)=some ds[i]?:=λ_ _ _ _=>rfl
theorem pV{M:ag}{n:Nat}{ds:List D}(h:M[n]?=some (.lst ds)):∀M',Ex M M'->∀i,i<=ds.length->itemAt M' i (.at n)=some ds[i]?:=λM' e i _=>by unfold itemAt;simp only[Ex.get e h]
theorem Mc{M:ag}{lo:Int}{n:Nat}:∀M',Ex M M'->∀i,i<=((List.range n).map λi=>D.int (lo+(i:Nat))).length->itemAt M' i (.lB lo n)=some ((List.range n).map λi=>D.int (lo+(i:Nat)))[i]?:=λM' e i hi=>by
 have aJ:((List.range n).map λi=>D.int (lo+(i:Nat))).length=n:=by simp
 rw[aJ]at hi;show some (if i<n then some (D.int (lo+i)) else none)=_;by_cases q:i<n
 ·rw[aF q];simp[q]
 ·rw[aP q,EF (by rw[aJ];omega)]
theorem QR{lo:Int}{n:Nat}(I:Nat->ag->List D->Prop)(nd:tg.Nodup)(h0:I 0 M [])(hs:∀i M acc,i<n->I i M acc->acc.length<sizeLine/\C9 (bH tg (.int (lo+i)) ρ) λτ=>j_ G cond τ M λr M=>if r=true then wE G elt τ M λw M=>eI (own w M) λx M=>I (i+1) M (acc++[x]) else I (i+1) M acc)(he:∀M acc,I n M acc->P (.lv acc) M):@aH ⟨ee⟩ _ (bc (λτ M=>bI G cond τ M) (λτ M=>(ev G elt τ M).bind own) (.lB lo n) tg (dj M (.lB lo n)) 0 ρ M []) P:=by
 have aJ:((List.range n).map λi=>D.int (lo+(i:Nat))).length=n:=by simp
 refine kg (ee:=ee) (ds:=(List.range n).map λi=>D.int (lo+(i:Nat))) I nd (λi M' acc _ hi=>Mc M' (Ex.refl M') i hi) h0 (λi M' acc d e h=>?_) (λM' acc h=>he M' acc (by rw[aJ]at h;exact h)) (by rw[aJ];rfl);have hi:i<n:=by have:=(bG.mp e).1;rw[aJ]at this;exact this
 have:d=.int (lo+i):=by rw[c_,AI hi]at e;exact(cR e).symm
 subst this;exact hs i M' acc hi h
end
section
variable [er:Er]
section
variable {G:a_} {ρ:En} {M:ag} {P:W->ag->Prop} {B:Bool->ag->Prop}
theorem pI{a b:C}:wE G (.sub a b) ρ M P=wE G a ρ M λx M=>wE G b ρ M λy M=>eI (dh x y M) P:=rfl
theorem Cc{f:Nat}{cs:List C}:wE G (.call f cs) ρ M P=Az G cs ρ M λds M=>aH (G f ds M) P:=rfl
end
end
end Ev
end
local macro_rules
  | `(tactic| nofun) => `(tactic| conv => whnf)
section
namespace Ev
open L2
open PySem PySem.Spec PyProof.Rows
def rK:List S:=[.dD [4] .seq [(.sub (.sub (.ks 0 0) 1) (.kn 1))] [.iff (.eC [(.val (.cmp .eq (.ks 4 0) 2)),(.val (.cmp .eq (.ks 4 1) 3))]) [.ret (.tup [(.ks 4 2),(.ks 4 3),(.ks 4 4)])] []],.iff (.val (.cmp .eq 3 (.bb (.str "own")))) [.ret (.bb .aL)] [],.ret (.tup [2,(.tup []),(.bb .aL)])]
noncomputable def Dk:List S:=[.asg [2] (.bin .mul (.kn 31) 1),.iff (.val (.cmp .gt (.bi .len [0]) (.kn 0))) [.asg [2] (.bin .add (.sub 0 (.bin .mod 1 (.bi .len [0]))) (.bin .mul (.kn 7919) (.bin .fdiv 1 (.bi .len [0]))))] [],.ret (.zF ["cell","left","turn"] [2,(.bin .mul (.bi .max2 [(.kn 0),2]) (.bi .qU [(.cmp .ge 2 (.bin .pow (.kn 10) (.kn 18)))])),(.kn 0)])]
noncomputable def yu:List S:=[.asg [2] (.sub 0 (.bb (.str "turn"))),.put 0 (.bb (.str "turn")) (.bin .add 2 (.kn 1)),.asg [3] (.sub 0 (.bb (.str "left"))),.iff (.val (.cmp .gt 3 (.kn 0))) [.put 0 (.bb (.str "left")) (.bin .fdiv 3 1),.ret (.bin .mod 3 1)] [],.asg [4] (.bin .add (.bin .add (.bin .mod (.sub 0 (.bb (.str "cell"))) (.kn 2147483647)) (.bin .mul (.bin .mul (.kn 31) 2) 2)) (.kn 1)),.asg [5] (.bin .mod (.bin .mul 4 (.bin .add (.kn 48271) (.bin .mul (.kn 40) 2))) (.kn 2147483629)),.ret (.bin .mod (.bin .fdiv (.bin .mod (.bin .add (.bin .mul (.bin .fdiv 5 (.kn 11)) (.kn 69621)) 2) (.kn 998244353)) (.kn 7)) 1)]
noncomputable def wC(ao:Nat):List S:=[.asg [2] (.lst []),.iff (.val (.cmp .gt 1 (.kn 1))) [.asg [3] (.lst [(.call ao [0,(.kn 4)]),(.bin .add (.kn 1) (.call ao [0,(.kn 5)])),(.kn 8)]),.dD [4] .fT [(.sub 3 (.bin .fdiv (.call ao [0,(.kn 9)]) (.kn 4)))] [.asg [5] (.call ao [0,1]),.asg [6] (.bin .mod (.bin .add (.bin .add 5 (.kn 1)) (.call ao [0,(.bin .sub 1 (.kn 1))])) 1),.expr (.me .append 2 [(.tup [5,6,(.sub (.lst [(.bb (.str "row")),(.bb (.str "heap"))]) (.call ao [0,(.kn 2)]))])])]] [],.ret (.bi .tuple1 [2])]
noncomputable def rL(ao:Nat):List S:=[.asg [1] (.lst [(.call ao [0,(.kn 100)])]),.asg [2] (.lst [(.call ao [0,(.kn 3)]),(.kn 6)]),.dD [3] .fT [(.sub 2 (.bin .fdiv (.call ao [0,(.kn 16)]) (.kn 15)))] [.asg [4] (.sub (.lst [(.call ao [0,(.kn 100)]),3]) (.call ao [0,(.kn 2)])),.iff (.val (.cmp .cT 4 1)) [.expr (.me .append 1 [4])] []],.ret 1]
noncomputable def wF(ao:Nat):List S:=[.asg [2] (.lst []),.dD [3] .fT [(.bin .mul (.sub (.lst [(.kn 0),(.kn 0),(.kn 1),(.kn 1),(.kn 1),(.kn 2),(.kn 3)]) (.call ao [0,(.kn 7)])) (.bi .qU [(.cmp .gt (.bi .len [1]) (.kn 0))]))] [.asg [4] (.sub 1 (.call ao [0,(.bi .len [1])])),.expr (.me .append 2 [(.tup [4,(.sub (.bb (.str "abcz")) (.call ao [0,(.kn 4)]))])])],.ret (.bi .tuple1 [2])]
def wG(ao:Nat)(nU:Nat):List S:=[.asg [3] (.lst [(.bb .aL),(.bb .aL),(.bb .aL),(.bb (.str "x")),(.bb (.str "yes")),(.bb (.str "abcdefgh")),(.bb (.str "own")),(.bb (.str "a"))]),.asg [4] (.lst []),.dD [5] .seq [1] [.dD [6] .seq [(.tup [(.bb (.str "own")),(.bb (.str "a")),(.bb (.str "b")),(.bb (.str "z"))])] [.iff (.val (.cmp .gt (.call ao [0,(.kn 4)]) (.kn 0))) [.asg [7] (.sub 1 (.call ao [0,(.bi .len [1])])),.asg [8] (.call nU [0,2]),.asg [9] (.sub 3 (.call ao [0,(.kn 8)])),.asg [10] (.call ao [0,(.bin .add (.bi .len [4]) (.kn 1))]),.expr (.me .insert 4 [10,(.tup [5,6,7,8,9])])] []]],.ret (.bi .tuple1 [4])]
noncomputable def yv(cw:Nat)(ao:Nat)(jx:Nat)(dv:Nat)(eQ:Nat):List S:=[.asg [1] (.call cw [0,(.kn 0)]),.asg [2] (.sub (.lst [(.kn 2),(.kn 1),(.kn 3),(.kn 2),(.kn 4),(.kn 3)]) (.call ao [1,(.kn 6)])),.asg [3] (.call jx [1,2]),.asg [4] (.lst []),.dD [5] .fT [2] [.asg [1] (.call cw [0,(.bin .add (.kn 1) 5)]),.asg [6] (.call dv [1]),.jt 7 (.comp .fT [(.bi .len [3])] [1] (some (.val (.cmp .eq (.sub (.sub 3 1) (.kn 0)) 2))) 1 [none,none,some 5,some 3]),.asg [8] (.sub 6 (.call ao [1,(.bi .len [6])])),.expr (.me .append 4 [(.tup [8,(.call eQ [1,6,7])])])],.ret (.tup [(.bi .tuple1 [4]),3])]
def rM:List S:=[.jt 4 (.comp .seq [(.sub (.sub (.ks 0 0) 1) (.kn 1))] [1] (some (.val (.cmp .eq (.jz 1 none (some (.kn 2))) (.tup [3,2])))) (.jz 1 (some (.kn 2)) none) [none,none,some 3,some 2]),.iff (.val (.cmp .ne 4 (.lst []))) [.ret (.ks 4 0)] [],.ret (.ite (.val (.cmp .eq 3 (.bb (.str "own")))) (.bb .aL) (.tup [2,(.tup []),(.bb .aL)]))]
noncomputable def gP(c l t:Int):MO:=.dK [(Sum.inr ("cell" : Str),.int c),(Sum.inr ("left" : Str),.int l),(Sum.inr ("turn" : Str),.int t)]
section
variable {M:ag} {w:Nat} {c l t:Int}
theorem Dl(h:M[w]?=some (gP c l t)):dh (.d (.aw w)) (.d (.str "cell")) M=.ok (.d (.int c)) M:=by
 unfold dh;simp only[h];rfl
theorem Dm(h:M[w]?=some (gP c l t)):dh (.d (.aw w)) (.d (.str "left")) M=.ok (.d (.int l)) M:=by
 unfold dh;simp only[h];rfl
theorem Dp(h:M[w]?=some (gP c l t)):dh (.d (.aw w)) (.d (.str "turn")) M=.ok (.d (.int t)) M:=by
 unfold dh;simp only[h];rfl
theorem Dq(h:M[w]?=some (gP c l t))(i:Int):ic (.d (.aw w)) (.d (.str "left")) (.int i) M=.ok () (M.set w (gP c i t)):=by
 unfold ic;simp only[h];rfl
theorem Dr(h:M[w]?=some (gP c l t))(i:Int):ic (.d (.aw w)) (.d (.str "turn")) (.int i) M=.ok () (M.set w (gP c l i)):=by
 unfold ic;simp only[h];rfl
end
theorem Hc{G:a_}{M:ag}{w:Nat}{c l t lX:Int}(h:M[w]?=some (gP c l t))(ht:0<=t/\t<2 ^ 40)(hl:0<=l)(hm:0<lX/\lX<1073741824):aH (ah G 6 yu [.aw w,.int lX] M) λr M'=>∃i l',r=.d (.int i)/\0<=i/\i<lX/\0<=l'/\M'=M.set w (gP c l' (t+1)):=by
 have hw:w<M.length:=(bG.mp h).1;rw[bf];show du G yu [some (.aw w),some (.int lX),none,none,none,none] M _ _ _ _;have h1:(M.set w (gP c l (t+1)))[w]?=some (gP c l (t+1)):=mH hw;nofun;rw[Dp h];nofun;rw[Dr h];nofun;rw[Dm h1];nofun;by_cases hp:0<l
 ·rw[fX hp];nofun;refine⟨hm,?_⟩;nofun;rw[Dq h1];nofun;refine⟨hm.1,_,l / lX,rfl,EY _ ∅,ES _ hm.1,Int.ediv_nonneg hl ∅,?_⟩;rw[List.set_set]
 ·rw[eU hp];nofun;rw[Dl h1];nofun;refine⟨∅,?_⟩;nofun;refine⟨∅,?_⟩;nofun;refine⟨∅,?_⟩;nofun;refine⟨∅,?_⟩;nofun;refine⟨∅,?_⟩;nofun;refine⟨∅,?_⟩;nofun;refine⟨∅,?_⟩;nofun;refine⟨∅,?_⟩;nofun;refine⟨∅,?_⟩;nofun;refine⟨∅,?_⟩;nofun;exact⟨hm.1,_,l,rfl,EY _ ∅,ES _ hm.1,hl,rfl⟩
def WA(M:ag)(w:Nat)(T:Int):Prop:=∃c l t,M[w]?=some (gP c l t)/\0<=l/\0<=t/\t<=T
theorem WA.lt{M:ag}{w:Nat}{T:Int}(h:WA M w T):w<M.length:=by obtain⟨c,l,t,h,_⟩:=h;exact aT h
theorem WA.app{M X:ag}{w:Nat}{T:Int}(h:WA M w T):WA (M++X) w T:=by obtain⟨c,l,t,h,q⟩:=h;exact⟨c,l,t,aG h,q⟩
theorem WA.set{M:ag}{w n:Nat}{T:Int}{o:MO}(h:WA M w T)(k:w≠n):WA (M.set n o) w T:=by obtain⟨c,l,t,h,q⟩:=h;exact⟨c,l,t,bh h k,q⟩
theorem WA.mono{M:ag}{w:Nat}{T T2:Int}(h:WA M w T)(k:T<=T2):WA M w T2:=by obtain⟨c,l,t,h,a,b,q⟩:=h;exact⟨c,l,t,h,a,b,Int.le_trans q k⟩
theorem WA.fr{M M1:ag}{w v:Nat}{T:Int}(h:WA M w T)(f:Fr v M M1)(k:w≠v):WA M1 w T:=by obtain⟨c,l,t,h,q⟩:=h;exact⟨c,l,t,f.get h k,q⟩
section
variable {M:ag} {n:Nat} {ds:List D} {i:Int} {x:D}
theorem lY{P:D->Prop}{k:Nat}(h:∀d∈ds,P d)(h0:0<=i)(h1:i<k)(hk:k=ds.length):∃d,ds[i.toNat]?=some d/\P d:=by
 have hl:i.toNat<ds.length:=∅;exact⟨ds[i.toNat],bZ hl,h _ (qk hl)⟩
end
def d7(F:Fn):Prop:=∀(M:ag)(w:Nat)(T lX:Int),WA M w T->T<2 ^ 40->0<lX->lX<1073741824->aH (F [.aw w,.int lX] M) λr M'=>∃i,r=.d (.int i)/\0<=i/\i<lX/\WA M' w (T+1)/\Fr w M M'
theorem Md{G:a_}:d7 (ah G 6 yu):=by
 intro M w T lX ⟨c,l,t,h,hl,h0,h1⟩ hT hm VH;refine(Hc h ⟨h0,∅⟩ hl ⟨hm,VH⟩).imp ?_;rintro r M' ⟨i,l',e,a,b,U5,rfl⟩;exact⟨i,e,a,b,⟨c,l',t+1,bC h,U5,∅,∅⟩,(Fr.refl w M).VG⟩
def nV(F:Fn):Prop:=∀(M:ag)(ns:List Int)(k:Int),0<=k->k<2 ^ 40->ns.length<=63->aH (F [.ls (ns.map D.int),.int k] M) λr M'=>r=.d (.aw M.length)/\M'.length=M.length+1/\WA M' M.length 0/\Fr M.length M M'
theorem QS{G:a_}:nV (ah G 3 Dk):=by
 intro M ns k hk SF kC;rw[bf];show du G Dk [some (.ls (ns.map D.int)),some (.int k),none] M _ _ _ _
 have fin:∀(c:Int)(b:Bool),WA (M++[MO.dK ((List.map Sum.inr [(("cell" : Str)),"left","turn"]).zip [D.int c,D.int ((if c>0 then c else 0)*if b=true then 1 else 0),D.int 0])]) M.length 0:=by
  intro c b;refine⟨c,_,0,av,?_,oM _,oM _⟩;refine Int.mul_nonneg ?_ ?_<;>split<;>omega
 have hb:∀b:Bool,(-(2 ^ 64):Int)<(if b=true then 1 else 0)/\(if b=true then 1 else 0)<(2 ^ 64:Int):=λb=>by split<;>omega
 have aJ:∀x:MO,(M++[x]).length=M.length+1:=λx=>by simp
 nofun;refine⟨∅,?_⟩;nofun;by_cases hp:(0:Int)<(ns.map D.int).length
 ·rw[fX hp];have hl:(ns.map D.int).length=ns.length:=aB _;have hr:0<=k % ((ns.map D.int).length:Int):=EY _ ∅;have Sq:k % ((ns.map D.int).length:Int)<((ns.map D.int).length:Int):=ES _ hp;have gh:(k % ((ns.map D.int).length:Int)).toNat<ns.length:=∅
  have hg:(ns.map D.int)[(k % ((ns.map D.int).length:Int)).toNat]?=some (.int ns[(k % ((ns.map D.int).length:Int)).toNat]):=by
   rw[c_,bZ gh];rfl
  nofun;refine⟨∅,?_⟩;nofun;rw[L_ hr hg];nofun;refine⟨⟨∅,∅⟩,?_⟩;nofun;refine⟨.inl ∅,?_⟩;nofun;refine⟨.inr (hb _),?_⟩;nofun;exact⟨rfl,rfl,aJ _,fin _ _,(Fr.refl _ M).app⟩
 ·rw[eU hp];nofun;refine⟨.inr (hb _),?_⟩;nofun;exact⟨rfl,rfl,aJ _,fin _ _,(Fr.refl _ M).app⟩
noncomputable def pW(m:Int)(d:D):Prop:=∃a b k,d=.tup [.int a,.int b,.str k]/\0<=a/\a<m/\0<=b/\b<m/\a≠b/\(k = "row" \/ k = "heap")
def wH(F:Fn):Prop:=∀(M:ag)(w:Nat)(T m:Int),WA M w T->T<2 ^ 39->1<=m->m<=4->aH (F [.aw w,.int m] M) λr M'=>∃ds,r=.d (.tup ds)/\ds.length<=8/\(∀d∈ds,pW m d)/\WA M' w (T+100)/\Fr w M M'
theorem Mf{G:a_}{ao:Nat}(hD:d7 (G ao)):wH (ah G 7 (wC ao)):=by
 intro M w T m hw hT VI IF;have B0:=hw.lt;rw[bf];show du G (wC ao) [some (.aw w),some (.int m),none,none,none,none,none] M _ _ _ _;nofun;refine⟨(show(0:Nat)<=sizeLine by decide),?_⟩;nofun;by_cases hm:1<m
 ·rw[fX hm];have h0:(M++[MO.lst []])[M.length]?=some (.lst []):=av;nofun;refine(hD _ w T 4 hw.app ∅ ∅ ∅).imp ?_;rintro r M1 ⟨i1,rfl,QT,SG,u_,f1⟩;nofun;refine(hD _ w _ 5 u_ ∅ ∅ ∅).imp ?_;rintro r M2 ⟨i2,rfl,SH,VJ,lZ,f2⟩;nofun;refine⟨(show(3:Nat)<=sizeLine by decide),?_⟩;have h2:M2[M.length]?=some (.lst []):=f2.get (f1.get h0 ∅) ∅;have l2:=aT h2;nofun;refine(hD _ w _ 9 lZ.app ∅ ∅ ∅).imp ?_;rintro r M3 ⟨i3,rfl,Z6,Z7,pX,f3⟩;nofun;refine⟨⟨∅,∅⟩,?_⟩;have h3:M3[M.length]?=some (.lst []):=f3.get (aG h2) ∅;have IG:M3[M2.length]?=some (.lst [.int i1,.int (1+i2),.int 8]):=f3.get av ∅;have Ar:Fr w M M3:=(((Fr.refl w M).app.trans f1).trans f2).app.trans f3
  obtain⟨d,hd,j,e,SI,Z8⟩:=lY (P:=λd=>∃j:Int,d=.int j/\0<=j/\j<=8) (ds:=[.int i1,.int (1+i2),.int 8]) (i:=i3 / 4) (k:=3) (by
   intro d hd;simp only[bT,fW,fb]at hd;rcases hd with rfl | rfl | rfl
   ·exact⟨_,rfl,∅,∅⟩
   ·exact⟨_,rfl,∅,∅⟩
   ·exact⟨_,rfl,∅,∅⟩) ∅ ∅ rfl
  subst e;nofun;rw[bN IG (show(0:Int)<=i3 / 4 by omega) hd];nofun;refine⟨⟨∅,∅⟩,?_⟩;refine iX (n:=j.toNat) (λi ρ M'=>∃ds o4 o5 o6,ρ=[some (.aw w),some (.int m),some (.aw M.length),some (.aw M2.length),o4,o5,o6]/\M'[M.length]?=some (.lst ds)/\ds.length=i/\(∀d∈ds,pW m d)/\WA M' w (T+3+3*i)/\Fr w M M') ⟨[],none,none,none,rfl,h3,rfl,(by intro d h;cases h),pX.mono ∅,Ar⟩ ?_ ?_
  ·rintro i ρ M4 hi ⟨ds,o4,o5,o6,rfl,h4,rq,oZ,jA,mx⟩;have Z9:(i:Int)<8:=∅;have QU:=aT h4;nofun;refine(hD _ w _ m jA ∅ ∅ ∅).imp ?_;rintro r M5 ⟨i5,rfl,QV,SJ,my,f5⟩;nofun;refine(hD _ w _ (m-1) my ∅ ∅ ∅).imp ?_;rintro r M6 ⟨i6,rfl,NT,QW,nW,f6⟩;nofun;have h6:M6[M.length]?=some (.lst ds):=f6.get (f5.get h4 ∅) ∅;refine⟨∅,?_⟩;nofun;refine⟨cK h6,?_⟩;nofun;refine⟨(show(2:Nat)<=sizeLine by decide),?_⟩;nofun;refine(hD _ w _ 2 nW ∅ ∅ ∅).imp ?_;rintro r M7 ⟨i7,rfl,QX,VL,AA,f7⟩
   obtain⟨k,hk,k',e,FR⟩:=lY (P:=λd=>∃k:Str,d=.str k/\(k = "row" \/ k = "heap")) (ds:=[.str "row",.str "heap"]) (i:=i7) (k:=2) (by
    intro d hd;simp only[bT,fW,fb]at hd;rcases hd with rfl | rfl
    ·exact⟨_,rfl,.inl rfl⟩
    ·exact⟨_,rfl,.inr rfl⟩) QX VL rfl
   subst e;nofun;rw[rH QX hk];nofun;refine⟨(show(3:Nat)<=sizeLine by decide),?_⟩;have h7:M7[M.length]?=some (.lst ds):=f7.get h6 ∅;nofun;rw[dr h7 (bq ∅)];refine⟨ds++[.tup [.int i5,.int ((i5+1+i6) % m),.str k']],_,_,_,rfl,bC h7,by simp[rq],?_,?_,?_⟩
   ·intro d hd;rcases eV.mp hd with q | q
    ·exact oZ d q
    ·have:d=.tup [.int i5,.int ((i5+1+i6) % m),.str k']:=by simpa using q
     subst this;have SM:m=2\/m=3\/m=4:=∅;refine⟨_,_,_,rfl,QV,SJ,EY _ ∅,ES _ ∅,?_,FR⟩;rcases SM with rfl | rfl | rfl<;>omega
   ·exact(AA.set ∅).mono ∅
   ·exact(((mx.trans f5).trans f6).trans f7).set (aE _)
  ·rintro ρ M4 ⟨ds,o4,o5,o6,rfl,h4,rq,oZ,jA,mx⟩;nofun;rw[bO h4];exact⟨ds,rfl,∅,oZ,jA.mono ∅,mx⟩
 ·rw[eU hm];nofun;rw[bO av];exact⟨[],rfl,by decide,(by intro d h;cases h),hw.app.mono ∅,(Fr.refl w M).app⟩
def wI(d:D):Prop:=∃i:Int,d=.int i/\0<=i/\i<100
theorem IH{M:ag}:∀{ds:List D},(∀d∈ds,wI d)->∃qs,bp M 30 ds=some qs/\qs.all SeqAt.shaped=true
 | [],_=>⟨[],by unfold bp;rfl,rfl⟩
 | d::ds,h=>by
  obtain⟨i,rfl,_,_⟩:=h d (ez ..);obtain⟨qs,e,k⟩:=IH (M:=M) (ds:=ds) λd hd=>h d (dP _ hd);refine⟨.int i::qs,by unfold bp;rw[e];unfold cB;rfl,?_⟩;rw[List.all_cons,jw,k];rfl
theorem Ds{M:ag}{n:Nat}{ds:List D}{d:D}(hM:M[n]?=some (.lst ds))(h:∀d∈ds,wI d)(hd:wI d):∃b,aZ .cT (.d d) (.d (.aw n)) M=.ok b M:=by
 obtain⟨i,rfl,_,_⟩:=hd;obtain⟨qs,e,k⟩:=IH (M:=M) h;refine⟨!ia (.int i) qs,?_⟩;unfold aZ;have h1:gS M (.d (.int i))=some (.int i):=by show cB M 30 (.int i)=_;unfold cB;rfl
 have h2:bF M (.d (.aw n))=some (true,ds):=by unfold bF;simp only[hM]
 simp only[h1,h2,e,jw,k,jc,dA]
def mz(F:Fn):Prop:=∀(M:ag)(w:Nat)(T:Int),WA M w T->T<2 ^ 39->aH (F [.aw w] M) λr M'=>∃n ds,r=.d (.aw n)/\M.length<=n/\M'[n]?=some (.lst ds)/\1<=ds.length/\ds.length<=7/\(∀d∈ds,wI d)/\WA M' w (T+100)/\Fr w M M'
theorem Hd{G:a_}{ao:Nat}(hD:d7 (G ao)):mz (ah G 5 (rL ao)):=by
 intro M w T hw hT;have B0:=hw.lt;rw[bf];show du G (rL ao) [some (.aw w),none,none,none,none] M _ _ _ _;nofun;refine(hD _ w T 100 hw ∅ ∅ ∅).imp ?_;rintro r M1 ⟨i1,rfl,QT,SG,u_,f1⟩;nofun;refine⟨(show(1:Nat)<=sizeLine by decide),?_⟩;have l1:=f1.1;nofun;refine(hD _ w _ 3 u_.app ∅ ∅ ∅).imp ?_;rintro r M2 ⟨i2,rfl,SH,VJ,lZ,f2⟩;nofun;refine⟨(show(2:Nat)<=sizeLine by decide),?_⟩;have h2:M2[M1.length]?=some (.lst [.int i1]):=f2.get av ∅;have l2:=aT h2;nofun;refine(hD _ w _ 16 lZ.app ∅ ∅ ∅).imp ?_;rintro r M3 ⟨i3,rfl,Z6,Z7,pX,f3⟩;nofun;refine⟨⟨∅,∅⟩,?_⟩;have h3:M3[M1.length]?=some (.lst [.int i1]):=f3.get (aG h2) ∅;have IG:M3[M2.length]?=some (.lst [.int i2,.int 6]):=f3.get av ∅;have Ar:Fr w M M3:=(f1.app.trans f2).app.trans f3
 obtain⟨d,hd,j,e,SI,Z8⟩:=lY (P:=λd=>∃j:Int,d=.int j/\0<=j/\j<=6) (ds:=[.int i2,.int 6]) (i:=i3 / 15) (k:=2) (by
  intro d hd;simp only[bT,fW,fb]at hd;rcases hd with rfl | rfl
  ·exact⟨_,rfl,∅,∅⟩
  ·exact⟨_,rfl,∅,∅⟩) ∅ ∅ rfl
 subst e;nofun;rw[bN IG (show(0:Int)<=i3 / 15 by omega) hd];nofun;refine⟨⟨∅,∅⟩,?_⟩
 have VM:∀d∈[D.int i1],wI d:=by
  intro d h;have:d=.int i1:=by simpa using h
  subst this;exact⟨_,rfl,QT,SG⟩
 refine iX (n:=j.toNat) (λi ρ M'=>∃ds o3 o4,ρ=[some (.aw w),some (.aw M1.length),some (.aw M2.length),o3,o4]/\M'[M1.length]?=some (.lst ds)/\1<=ds.length/\ds.length<=i+1/\(∀d∈ds,wI d)/\WA M' w (T+3+2*i)/\Fr w M M') ⟨[.int i1],none,none,rfl,h3,aE _,aE _,VM,pX.mono ∅,Ar⟩ ?_ ?_
 ·rintro i ρ M4 hi ⟨ds,o3,o4,rfl,h4,II,rq,oZ,jA,mx⟩;have Z9:(i:Int)<6:=∅;have QU:=aT h4;nofun;refine(hD _ w _ 100 jA ∅ ∅ ∅).imp ?_;rintro r M5 ⟨i5,rfl,QV,SJ,my,f5⟩;nofun;refine⟨(show(2:Nat)<=sizeLine by decide),?_⟩;nofun;refine(hD _ w _ 2 my ∅ ∅ ∅).imp ?_;rintro r M6 ⟨i6,rfl,NT,QW,nW,f6⟩
  obtain⟨d,hd,fO⟩:=lY (P:=wI) (ds:=[.int i5,.int (0+i)]) (i:=i6) (k:=2) (by
   intro d hd;simp only[bT,fW,fb]at hd;rcases hd with rfl | rfl
   ·exact⟨_,rfl,∅,∅⟩
   ·exact⟨_,rfl,∅,∅⟩) NT QW rfl
  nofun;rw[rH NT hd];have h6:M6[M1.length]?=some (.lst ds):=f6.get (f5.get h4 ∅) ∅;nofun;obtain⟨b,hb⟩:=Ds h6 oZ fO;rw[hb]
  cases b with
  | false=>exact⟨ds,_,_,rfl,h6,II,∅,oZ,nW.mono ∅,(mx.trans f5).trans f6⟩
  | true =>
   nofun;refine⟨cK h6,?_⟩;nofun;rw[dr h6 (bq ∅)];refine⟨ds++[d],_,_,rfl,bC h6,by simp,by simp;omega,?_,(nW.set ∅).mono ∅,((mx.trans f5).trans f6).set ∅⟩;intro x hx;rcases eV.mp hx with q | q
   ·exact oZ x q
   ·have:x=d:=by simpa using q
    subst this;exact fO
 ·rintro ρ M4 ⟨ds,o3,o4,rfl,h4,II,rq,oZ,jA,mx⟩;exact⟨_,ds,rfl,l1,h4,II,∅,oZ,jA.mono ∅,mx⟩
noncomputable def yw(P:Int->Prop)(d:D):Prop:=∃r c,d=.tup [.int r,.str c]/\P r/\(c = "a" \/ c = "b" \/ c = "c" \/ c = "z")
theorem Mg{M:ag}{i:Int}(h0:0<=i)(h1:i<4):∃c,dh (.d (.str "abcz")) (.d (.int i)) M=.ok (.d (.str c)) M/\(c = "a" \/ c = "b" \/ c = "c" \/ c = "z"):=by
 have:i=0\/i=1\/i=2\/i=3:=∅;rcases this with rfl | rfl | rfl | rfl
 ·exact⟨"a",rfl,.inl rfl⟩
 ·exact⟨"b",rfl,.inr (.inl rfl)⟩
 ·exact⟨"c",rfl,.inr (.inr (.inl rfl))⟩
 ·exact⟨"z",rfl,.inr (.inr (.inr rfl))⟩
def wJ(F:Fn):Prop:=∀(P:Int->Prop)(M:ag)(w nw:Nat)(T:Int)(cW:List D),WA M w T->T<2 ^ 39+10000->M[nw]?=some (.lst cW)->nw≠w->(∀d∈cW,∃r,d=.int r/\P r)->cW.length<=100 ->
 aH (F [.aw w,.aw nw] M) λr M'=>∃ds,r=.d (.tup ds)/\ds.length<=3/\(∀d∈ds,yw P d)/\WA M' w (T+20)/\Fr w M M'
theorem Mh{G:a_}{ao:Nat}(hD:d7 (G ao)):wJ (ah G 5 (wF ao)):=by
 intro P M w nw T cW hw hT hn mZ hP QY;have B0:=hw.lt;have NU:=aT hn;rw[bf];show du G (wF ao) [some (.aw w),some (.aw nw),none,none,none] M _ _ _ _;nofun;refine⟨(show(0:Nat)<=sizeLine by decide),?_⟩;nofun;refine⟨(show(7:Nat)<=sizeLine by decide),?_⟩;nofun;refine(hD _ w T 7 hw.app ∅ ∅ ∅).imp ?_;rintro r M1 ⟨i1,rfl,QT,SG,u_,f1⟩
 obtain⟨d,hd,j,e,SI,Xl⟩:=lY (P:=λd=>∃j:Int,d=.int j/\0<=j/\j<=3) (ds:=[.int 0,.int 0,.int 1,.int 1,.int 1,.int 2,.int 3]) (i:=i1) (k:=7) (by
  intro d hd;simp only[bT,fW,fb]at hd;rcases hd with rfl | rfl | rfl | rfl | rfl | rfl | rfl<;>exact⟨_,rfl,∅,∅⟩) QT SG rfl
 subst e;nofun;rw[rH QT hd];have h1:M1[nw]?=some (.lst cW):=f1.get (aG hn) mZ;have ho:M1[M.length]?=some (.lst []):=f1.get av ∅;have Z_:Fr w M M1:=(Fr.refl w M).app.trans f1;nofun;rw[eZ h1];nofun;refine⟨.inl ∅,?_⟩
 have hj:0<=j*(if decide ((0:Int)<cW.length)=true then 1 else 0)/\j*(if decide ((0:Int)<cW.length)=true then 1 else 0)<=3/\(0<j*(if decide ((0:Int)<cW.length)=true then 1 else 0)->(0:Int)<cW.length):=by
  by_cases q:(0:Int)<cW.length
  ·simp only[fX q,dA,Int.mul_one];exact⟨SI,Xl,λ_=>q⟩
  ·simp only[eU q];simp
 generalize VN:j*(if decide ((0:Int)<cW.length)=true then 1 else 0)=jj at hj;obtain⟨SI,Xl,hj1⟩:=hj;have QZ:j*(if decide ((cW.length:Int)>0)=true then 1 else 0)=jj:=VN;nofun;refine⟨⟨by first | omega | (rw[QZ];omega) | (show _<=j*(if decide ((0:Int)<cW.length)=true then 1 else 0);rw[VN];omega),by first | omega | (rw[QZ];omega) | (show j*(if decide ((0:Int)<cW.length)=true then 1 else 0)<_;rw[VN];omega)⟩,?_⟩;refine iX (n:=jj.toNat) (λi ρ M'=>∃ds o3 o4,ρ=[some (.aw w),some (.aw nw),some (.aw M.length),o3,o4]/\M'[M.length]?=some (.lst ds)/\ds.length=i/\(∀d∈ds,yw P d)/\WA M' w (T+1+2*i)/\Fr w M M') ⟨[],none,none,rfl,ho,rfl,(by intro d h;cases h),u_.mono ∅,Z_⟩ ?_ ?_
 ·rintro i ρ M4 hi ⟨ds,o3,o4,rfl,h4,rq,oZ,jA,mx⟩;have hwp:(0:Int)<cW.length:=hj1 ∅;have IJ:M4[nw]?=some (.lst cW):=mx.get hn mZ;nofun;rw[eZ IJ];nofun;refine(hD _ w _ _ jA ∅ hwp ∅).imp ?_;rintro r M5 ⟨i5,rfl,QV,SJ,my,f5⟩;have VO:M5[nw]?=some (.lst cW):=f5.get IJ mZ;obtain⟨d,hd,r,e,hPr⟩:=lY (ds:=cW) (i:=i5) (k:=cW.length) hP QV SJ rfl;subst e;nofun;rw[bN VO QV hd];have h5:M5[M.length]?=some (.lst ds):=f5.get h4 ∅;nofun;refine⟨cK h5,?_⟩;nofun;refine(hD _ w _ 4 my ∅ ∅ ∅).imp ?_;rintro r6 M6 ⟨i6,rfl,NT,QW,nW,f6⟩;obtain⟨c,hc,ze⟩:=Mg (M:=M6) NT QW;nofun;rw[hc];nofun;refine⟨(show(2:Nat)<=sizeLine by decide),?_⟩;have h6:M6[M.length]?=some (.lst ds):=f6.get h5 ∅;nofun;rw[dr h6 (bq ∅)];refine⟨ds++[.tup [.int r,.str c]],_,_,rfl,bC h6,by simp[rq],?_,(nW.set ∅).mono ∅,((mx.trans f5).trans f6).set (aE _)⟩;intro x hx;rcases eV.mp hx with q | q
  ·exact oZ x q
  ·have:x=.tup [.int r,.str c]:=by simpa using q
   subst this;exact⟨_,_,rfl,hPr,ze⟩
 ·rintro ρ M4 ⟨ds,o3,o4,rfl,h4,rq,oZ,jA,mx⟩;nofun;rw[bO h4];exact⟨ds,rfl,∅,oZ,jA.mono ∅,mx⟩
def yx(d:D):Prop:=d=.aL\/∃x:Str,d=.str x/\(x = "x" \/ x = "yes" \/ x = "abcdefgh" \/ x = "own" \/ x = "a")
def Dt(d:D):Prop:=∃x:Str,d=.str x/\(x = "own" \/ x = "a" \/ x = "b" \/ x = "z")
def kh(P:Int->Prop)(d:D):Prop:=∃s c a sends wd,d=.tup [s,c,a,.tup sends,wd]/\wI s/\Dt c/\wI a/\sends.length<=3/\(∀x∈sends,yw P x)/\yx wd
def rN(F:Fn):Prop:=∀(P:Int->Prop)(M:ag)(w ns nw:Nat)(T:Int)(yy cW:List D),WA M w T->T<2 ^ 39->M[ns]?=some (.lst yy)->ns≠w->M[nw]?=some (.lst cW)->nw≠w->(∀d∈yy,wI d)->1<=yy.length->yy.length<=7->(∀d∈cW,∃r,d=.int r/\P r)->cW.length<=100 ->
 aH (F [.aw w,.aw ns,.aw nw] M) λr M'=>∃ds,r=.d (.tup ds)/\ds.length<=28/\(∀d∈ds,kh P d)/\WA M' w (T+1000)/\Fr w M M'
theorem Mi{G:a_}{ao nU:Nat}(hD:d7 (G ao))(hS:wJ (G nU)):rN (ah G 11 (wG ao nU)):=by
 intro P M w ns nw T sm cW hw hT hs Pw hn mZ fO Xm Xn hP QY;have B0:=hw.lt;have NU:=aT hn;have zU:=aT hs;rw[bf];show du G (wG ao nU) [some (.aw w),some (.aw ns),some (.aw nw),none,none,none,none,none,none,none,none] M _ _ _ _;nofun;refine⟨(show(8:Nat)<=sizeLine by decide),?_⟩;nofun;refine⟨(show(0:Nat)<=sizeLine by decide),?_⟩;have hsA:((M++[MO.lst [.aL,.aL,.aL,.str "x",.str "yes",.str "abcdefgh",.str "own",.str "a"]])++[MO.lst []])[ns]?=some (.lst sm):=aG (aG hs)
 have hwd:∀d∈[D.aL,.aL,.aL,.str "x",.str "yes",.str "abcdefgh",.str "own",.str "a"],yx d:=by
  intro d hd;simp only[bT,fW,fb]at hd;rcases hd with rfl | rfl | rfl | rfl | rfl | rfl | rfl | rfl
  ·exact .inl rfl
  ·exact .inl rfl
  ·exact .inl rfl
  ·exact .inr ⟨_,rfl,.inl rfl⟩
  ·exact .inr ⟨_,rfl,.inr (.inl rfl)⟩
  ·exact .inr ⟨_,rfl,.inr (.inr (.inl rfl))⟩
  ·exact .inr ⟨_,rfl,.inr (.inr (.inr (.inl rfl)))⟩
  ·exact .inr ⟨_,rfl,.inr (.inr (.inr (.inr rfl)))⟩
 have hA1:((M++[MO.lst [.aL,.aL,.aL,.str "x",.str "yes",.str "abcdefgh",.str "own",.str "a"]])++[MO.lst []])[M.length]?=some (.lst [.aL,.aL,.aL,.str "x",.str "yes",.str "abcdefgh",.str "own",.str "a"]):=aG av
 have hA2:((M++[MO.lst [.aL,.aL,.aL,.str "x",.str "yes",.str "abcdefgh",.str "own",.str "a"]])++[MO.lst []])[M.length+1]?=some (.lst []):=by
  have:=av (M:=M++[MO.lst [.aL,.aL,.aL,.str "x",.str "yes",.str "abcdefgh",.str "own",.str "a"]]) (o:=MO.lst []);simpa using this
 have aJ:(M++[MO.lst [.aL,.aL,.aL,.str "x",.str "yes",.str "abcdefgh",.str "own",.str "a"]]).length=M.length+1:=by simp
 nofun;rw[aJ];generalize hWW:([.aL,.aL,.aL,.str "x",.str "yes",.str "abcdefgh",.str "own",.str "a"]:List D)=WW at *;have hW8:WW.length=8:=by rw[<- hWW];rfl
 rw[fu hsA]
 refine Ma (n:=ns) (ds:=sm) (λi ρ M'=>∃ds o5 o6 o7 o8 o9 yz,ρ=[some (.aw w),some (.aw ns),some (.aw nw),some (.aw M.length),some (.aw (M.length+1)),o5,o6,o7,o8,o9,yz]/\M'[M.length]?=some (.lst WW)/\M'[M.length+1]?=some (.lst ds)/\ds.length<=4*i/\(∀d∈ds,kh P d)/\WA M' w (T+100*i)/\Fr w M M')
  (by rintro i ρ M' ⟨ds,_,_,_,_,_,_,_,_,_,_,_,_,f⟩;exact f.get hs Pw) ⟨[],none,none,none,none,none,none,rfl,hA1,hA2,mL _,(by intro d h;cases h),(hw.app.app).mono ∅,((Fr.refl w M).app).app⟩ ?_ ?_
 ·rintro i ρ M4 d hd ⟨ds,o5,o6,o7,o8,o9,yz,rfl,Xo,h4,rq,oZ,jA,mx⟩;have hi:i<sm.length:=(bG.mp hd).1;have hdS:wI d:=fO d (fw hd);nofun;refine⟨(show(4:Nat)<=sizeLine by decide),?_⟩
  refine mw (ds:=[.str "own",.str "a",.str "b",.str "z"]) (λj ρ M'=>∃ds o6 o7 o8 o9 yz,ρ=[some (.aw w),some (.aw ns),some (.aw nw),some (.aw M.length),some (.aw (M.length+1)),some d,o6,o7,o8,o9,yz]/\M'[M.length]?=some (.lst WW)/\M'[M.length+1]?=some (.lst ds)/\ds.length<=4*i+j/\(∀d∈ds,kh P d)/\WA M' w (T+100*i+25*j)/\Fr w M M')
   ⟨ds,o6,o7,o8,o9,yz,rfl,Xo,h4,∅,oZ,jA.mono ∅,mx⟩ ?_ ?_
  ·rintro j ρ M5 c hc ⟨ds,o6,o7,o8,o9,yz,rfl,SN,h5,Ek,SO,my,oP⟩;have hj:j<4:=(bG.mp hc).1
   have hcC:Dt c:=by
    have hm:=fw hc;simp only[bT,fW,fb]at hm;rcases hm with rfl | rfl | rfl | rfl
    ·exact⟨_,rfl,.inl rfl⟩
    ·exact⟨_,rfl,.inr (.inl rfl)⟩
    ·exact⟨_,rfl,.inr (.inr (.inl rfl))⟩
    ·exact⟨_,rfl,.inr (.inr (.inr rfl))⟩
   nofun;refine(hD _ w _ 4 my ∅ ∅ ∅).imp ?_;rintro r6 M6 ⟨i6,rfl,NT,QW,nW,f6⟩;nofun;by_cases hp:0<i6
   ·rw[fX hp];have NV:Fr w M M6:=oP.trans f6;have SQ:M6[ns]?=some (.lst sm):=NV.get hs Pw;nofun;rw[eZ SQ];nofun;refine(hD _ w _ _ nW ∅ ∅ ∅).imp ?_;rintro r7 M7 ⟨i7,rfl,QX,VL,AA,f7⟩;have FU:Fr w M M7:=NV.trans f7;obtain⟨a,ha,haS⟩:=lY (P:=wI) (ds:=sm) (i:=i7) (k:=sm.length) fO QX VL rfl;nofun;rw[bN (FU.get hs Pw) QX ha];nofun;refine(hS P M7 w nw _ cW AA ∅ (FU.get hn mZ) mZ hP QY).imp ?_;rintro r8 M8 ⟨sd,rfl,VP,nX,Q0,f8⟩;have fr8:Fr w M M8:=FU.trans f8;nofun;refine(hD _ w _ 8 Q0 ∅ ∅ ∅).imp ?_;rintro r9 M9 ⟨i9,rfl,Xp,i91,Xq,f9⟩;have fr9:Fr w M M9:=fr8.trans f9;have Xr:M9[M.length]?=some (.lst WW):=f9.get (f8.get (f7.get (f6.get SN ∅) ∅) ∅) ∅;have h9:M9[M.length+1]?=some (.lst ds):=f9.get (f8.get (f7.get (f6.get h5 ∅) ∅) ∅) ∅;obtain⟨wd,VQ,VR⟩:=lY (P:=yx) (ds:=WW) (i:=i9) (k:=8) hwd Xp i91 hW8.symm;nofun;rw[bN Xr Xp VQ];nofun;rw[eZ h9];nofun;refine(hD _ w _ _ Xq ∅ ∅ ∅).imp ?_;rintro rA MA ⟨iA,rfl,iA0,iA1,hwA,fA⟩;have frA:Fr w M MA:=fr9.trans fA;have hA:MA[M.length+1]?=some (.lst ds):=fA.get h9 ∅;nofun;refine⟨cK hA,?_⟩;nofun;refine⟨(show(5:Nat)<=sizeLine by decide),?_⟩;nofun;rw[uy hA (bq ∅) iA0 ∅];refine⟨ds.take iA.toNat++.tup [d,c,a,.tup sd,wd]::ds.drop iA.toNat,_,_,_,_,_,rfl,bh (fA.get Xr ∅) ∅,bC hA,?_,?_,(hwA.set ∅).mono ∅,frA.set ∅⟩
    ·rw[dz,fJ,dg,gZ];omega
    ·intro x hx
     have hx:x=.tup [d,c,a,.tup sd,wd]\/x∈ds:=by
      rcases eV.mp hx with q | q
      ·exact .inr (jC q)
      ·rcases bT.mp q with q | q
       ·exact .inl q
       ·exact .inr (sL q)
     rcases hx with rfl | hx
     ·exact⟨_,_,_,_,_,rfl,hdS,hcC,haS,VP,nX,VR⟩
     ·exact SO x hx
   ·rw[eU hp];exact⟨ds,_,_,_,_,_,rfl,f6.get SN ∅,f6.get h5 ∅,∅,SO,nW.mono ∅,oP.trans f6⟩
  ·rintro ρ M5 ⟨ds,o6,o7,o8,o9,yz,rfl,SN,h5,Ek,SO,my,oP⟩;have e4:[D.str "own",D.str "a",D.str "b",D.str "z"].length=4:=rfl;rw[e4]at Ek my;exact⟨ds,_,_,_,_,_,_,rfl,SN,h5,∅,SO,my.mono ∅,oP⟩
 ·rintro ρ M4 ⟨ds,o5,o6,o7,o8,o9,yz,rfl,Xo,h4,rq,oZ,jA,mx⟩;nofun;rw[bO h4];exact⟨ds,rfl,∅,oZ,jA.mono ∅,mx⟩
noncomputable def rO(a8:List D)(m:Nat)(r:Int):Prop:=0<=r/\∃b k,a8[r.toNat]?=some (.tup [.int m,b,k])
def Du(a8:List D)(m:Nat)(d:D):Prop:=∃st cD,d=.tup [st,.tup cD]/\wI st/\cD.length<=28/\∀y∈cD,kh (rO a8 m) y
def IK(d:D):Prop:=∃bt a8,d=.tup [.tup bt,.tup a8]/\1<=bt.length/\bt.length<=4/\a8.length<=8/\(∀x∈a8,pW bt.length x)/\∀m x,bt[m]?=some x->Du a8 m x
def Dv(F:Fn):Prop:=∀(M:ag)(ns:List Int),ns.length<=63->aH (F [.ls (ns.map D.int)] M) λr M'=>∃d,r=.d d/\IK d/\Fr M.length M M'
theorem Fr.none{w:Nat}{M M1 M2:ag}(a:Fr M.length M M1)(b:Fr w M1 M2)(h:M.length<=w):Fr M.length M M2:=⟨bJ a.1 b.1,λn hn k=>(b.2 n (fH hn a.1) ∅).trans (a.2 n hn k)⟩
theorem Dw{m:Int}{a8:List D}{i:Nat}(h:∀x∈a8,pW m x)(hi:i<a8.length):∃a b k,a8[i]?=some (.tup [.int a,.int b,.str k]):=by
 obtain⟨a,b,k,e,_⟩:=h a8[i] (qk hi);exact⟨a,b,k,by rw[bZ hi,e]⟩
noncomputable def yA:C:=.comp .fT [.bi .len [.dH 3]] [1] (some (.val (.cmp .eq (.sub (.sub 3 1) (.kn 0)) 2))) 1 [none,none,some 5,some 3]
theorem He{G:a_}{ρ:En}{M:ag}{m:Int}{i:Nat}{a8:List D}{P:W->ag->Prop}(h5:ρ[5]?=some (some (.int i)))(h3:ρ[3]?=some (some (.tup a8)))(Q1:a8.length<=8)(FN:∀x∈a8,pW m x)(q:∀cW,cW.length<=8->(∀d∈cW,∃r,d=.int r/\rO a8 i r)->P (.lv cW) M):wE G yA ρ M P:=by
 unfold yA;nofun;rw[h3];nofun;refine⟨⟨∅,∅⟩,?_⟩;rw[show eT [none,none,some 5,some 3] ρ=[none,none,some (.int i),some (.tup a8)] by unfold eT;simp only[eJ,lR,Option.bind_none,Option.bind_some,h5,h3,Option.join_some]];refine QR (n:=(a8.length:Int).toNat) (λk M' acc=>M=M'/\acc.length<=k/\∀d∈acc,∃r,d=.int r/\rO a8 i r) (by decide) ⟨rfl,aE _,(by intro d h;cases h)⟩ ?_ ?_
 ·rintro k M7 acc hk ⟨rfl,NI,NW⟩;have FR:k<a8.length:=∅;refine⟨bq ∅,?_⟩;obtain⟨a,b,kk,hrk⟩:=Dw FN FR;have Q2:a8[((0:Int)+(k:Nat)).toNat]?=some (.tup [.int a,.int b,.str kk]):=by rw[show((0:Int)+(k:Nat)).toNat=k by omega];exact hrk
  nofun;rw[mq (show(0:Int)<=0+(k:Nat) by omega) Q2];nofun
  cases q:(a==(i:Int))with
  | true =>
   have q:a=i:=by simpa using q
   subst q;refine⟨rfl,by simp;omega,?_⟩;intro d hd;rcases eV.mp hd with z | z
   ·exact NW d z
   ·have:d=.int (0+k):=by simpa using z
    subst this;exact⟨_,rfl,∅,.int b,.str kk,Q2⟩
  | false=>exact⟨rfl,∅,NW⟩
 ·rintro M7 cW ⟨rfl,NI,NW⟩;exact q cW ∅ NW
def IL(cw ao dv eQ:Nat):List S:=[.asg [1] (.call cw [0,(.bin .add (.kn 1) 5)]),.asg [6] (.call dv [1]),.jt 7 yA,.asg [8] (.sub 6 (.call ao [1,(.bi .len [6])])),.expr (.me .append 4 [(.tup [8,(.call eQ [1,6,7])])])]
theorem z7{G:a_}{cw ao dv eQ:Nat}(hW:nV (G cw))(hD:d7 (G ao))(Q3:mz (G dv))(VS:rN (G eQ)){ns:List Int}(kC:ns.length<=63){m:Int}{i:Nat}{a8 bt:List D}{M4:ag}{n3:Nat}{o1 d2 o6 o7 o8:Option D}{nx:En->ag->Prop}{rt:W->ag->Prop}{bk ct:En->ag->Prop}(hi:i<4)(Q1:a8.length<=8)(FN:∀x∈a8,pW m x)(h4:M4[n3]?=some (.lst bt))(rq:bt.length=i)(q:∀o1 o6 o7 o8 M9 x,Du a8 i x->Fr n3 M4 M9->M9[n3]?=some (.lst (bt++[x]))->nx [some (.ls (ns.map D.int)),o1,d2,some (.tup a8),some (.aw n3),some (.int i),o6,o7,o8] M9):du G (IL cw ao dv eQ) [some (.ls (ns.map D.int)),o1,d2,some (.tup a8),some (.aw n3),some (.int i),o6,o7,o8] M4 nx rt bk ct:=by
 have l4:=aT h4;nofun;refine(hW M4 ns (1+i) ∅ ∅ kC).imp ?_;rintro r M5 ⟨rfl,Ek,my,f5⟩;nofun;refine(Q3 M5 _ _ my ∅).imp ?_;rintro r M6 ⟨n6,st,rfl,SS,h6,Xm,Xn,fO,nW,f6⟩;have l6:=aT h6;show wE G yA [some (.ls (ns.map D.int)),some (.aw M4.length),d2,some (.tup a8),some (.aw n3),some (.int i),some (.aw n6),o7,o8] M6 _;refine He (m:=m) (i:=i) (by rfl) (by rfl) Q1 FN λcW hl NW=>?_;nofun;have h7:(M6++[MO.lst cW])[n6]?=some (.lst st):=aG h6;rw[eZ h7];nofun;refine(hD _ _ _ _ nW.app ∅ ∅ ∅).imp ?_;rintro r8 M8 ⟨i8,rfl,Xs,i81,Q0,f8⟩;have IJ:n6≠M4.length:=∅;have h8:M8[n6]?=some (.lst st):=f8.get h7 IJ;have h8w:M8[M6.length]?=some (.lst cW):=f8.get av ∅;obtain⟨s0,hs0,VT⟩:=lY (P:=wI) (ds:=st) (i:=i8) (k:=st.length) fO Xs i81 rfl;nofun;rw[bN h8 Xs hs0];nofun;have h5R:M5[n3]?=some (.lst bt):=f5.get h4 ∅;have h6R:M6[n3]?=some (.lst bt):=f6.get h5R ∅;have Xu:M8[n3]?=some (.lst bt):=f8.get (aG h6R) ∅;refine⟨cK Xu,?_⟩;nofun;refine(VS (rO a8 i) M8 M4.length n6 M6.length _ st cW Q0 ∅ h8 IJ h8w ∅ fO Xm Xn NW ∅).imp ?_;rintro r9 M9 ⟨mv,rfl,IM,VU,Xq,f9⟩;nofun;refine⟨(show(2:Nat)<=sizeLine by decide),?_⟩;have Xv:M9[n3]?=some (.lst bt):=f9.get Xu ∅;nofun;rw[dr Xv (bq ∅)];refine q _ _ _ _ _ (.tup [s0,.tup mv]) ⟨_,_,rfl,VT,IM,VU⟩ ?_ (bC Xv);have g5:Fr M4.length M4 M9:=(((f5.none f6 (aE _)).app).none f8 (aE _)).none f9 (aE _);refine⟨by rw[ja];exact g5.1,λn hn k=>?_⟩;rw[kH (cN k)];exact g5.2 n hn ∅
theorem Q4{G:a_}{cw ao jx dv eQ:Nat}(hW:nV (G cw))(hD:d7 (G ao))(hR:wH (G jx))(Q3:mz (G dv))(VS:rN (G eQ)):Dv (ah G 9 (yv cw ao jx dv eQ)):=by
 intro M ns kC;rw[bf];show du G (yv cw ao jx dv eQ) [some (.ls (ns.map D.int)),none,none,none,none,none,none,none,none] M _ _ _ _;have hb:yv cw ao jx dv eQ=[.asg [1] (.call cw [(.dH 0),(.bb (.int 0))]),.asg [2] (.sub (.lst [(.bb (.int 2)),(.bb (.int 1)),(.bb (.int 3)),(.bb (.int 2)),(.bb (.int 4)),(.bb (.int 3))]) (.call ao [(.dH 1),(.bb (.int 6))])),.asg [3] (.call jx [(.dH 1),(.dH 2)]),.asg [4] (.lst []),.dD [5] .fT [(.dH 2)] (IL cw ao dv eQ),.ret (.tup [(.bi .tuple1 [(.dH 4)]),(.dH 3)])]:=rfl;rw[hb];nofun;refine(hW M ns 0 ∅ ∅ kC).imp ?_;rintro r M1 ⟨rfl,II,u_,f1⟩;nofun;refine⟨(show(6:Nat)<=sizeLine by decide),?_⟩;nofun;refine(hD _ _ _ 6 u_ ∅ ∅ ∅).imp ?_;rintro r M2 ⟨i2,rfl,SH,VJ,lZ,f2⟩
 obtain⟨d,hd,m,e,VI,IF⟩:=lY (P:=λd=>∃j:Int,d=.int j/\1<=j/\j<=4) (ds:=[.int 2,.int 1,.int 3,.int 2,.int 4,.int 3]) (i:=i2) (k:=6) (by
  intro d hd;simp only[bT,fW,fb]at hd;rcases hd with rfl | rfl | rfl | rfl | rfl | rfl<;>exact⟨_,rfl,∅,∅⟩) SH VJ rfl
 subst e;nofun;rw[rH SH hd];nofun;refine(hR _ _ _ m lZ ∅ VI IF).imp ?_;rintro r M3 ⟨a8,rfl,Q1,FN,pX,f3⟩;nofun;refine⟨(show(0:Nat)<=sizeLine by decide),?_⟩;nofun;refine⟨⟨∅,∅⟩,?_⟩;have Ar:Fr M.length M M3:=(f1.trans f2).trans f3;have l3:=Ar.1
 refine iX (n:=m.toNat) (λi ρ M'=>∃bt o1 o5 o6 o7 o8,ρ=[some (.ls (ns.map D.int)),o1,some (.int m),some (.tup a8),some (.aw M3.length),o5,o6,o7,o8]/\M'[M3.length]?=some (.lst bt)/\bt.length=i/\(∀k x,bt[k]?=some x->Du a8 k x)/\Fr M.length M M')
  ⟨[],_,none,none,none,none,rfl,av,rfl,(by intro k x h;simp at h),Ar.app⟩ ?_ ?_
 ·rintro i ρ M4 hi ⟨bt,o1,o5,o6,o7,o8,rfl,h4,rq,oZ,mx⟩;rw[show(0:Int)+(i:Int)=i by omega];refine z7 hW hD Q3 VS kC (m:=m) (i:=i) ∅ Q1 FN h4 rq λp1 p6 p7 p8 M9 x hx f9 h9=>?_;refine⟨bt++[x],_,_,_,_,_,rfl,h9,by simp[rq],?_,mx.none f9 l3⟩;intro k y hk;by_cases FR:k<bt.length
  ·rw[kG FR]at hk;exact oZ k y hk
  ·have hkk:k=bt.length:=by have:=(bG.mp hk).1;simp at this;omega
   subst hkk;simp at hk;subst hk;rw[rq];exact hx
 ·rintro ρ M4 ⟨bt,o1,o5,o6,o7,o8,rfl,h4,rq,oZ,mx⟩;nofun;rw[bO h4];nofun;refine⟨(show(2:Nat)<=sizeLine by decide),_,rfl,⟨bt,a8,rfl,∅,∅,Q1,?_,oZ⟩,mx⟩;have:(bt.length:Int)=m:=∅;rw[this];exact FN
theorem Mj(a b:Str):PyData.strOk (a++b)=(PyData.strOk a&&PyData.strOk b):=by
 show(a.cps++b.cps).all _=_;rw[Array.all_append];rfl
noncomputable def Tx(b:Nat)(x:Str):Prop:=x.length<=b/\PyData.strOk x=true
theorem Tx.app{a b:Nat}{x y:Str}(h:Tx a x)(k:Tx b y):Tx (a+b) (x++y):=⟨by rw[strLen_append];have:=h.1;have:=k.1;omega,by rw[Mj,h.2,k.2];rfl⟩
theorem Tx.mono{a b:Nat}{x:Str}(h:Tx a x)(k:a<=b):Tx b x:=⟨bJ h.1 k,h.2⟩
theorem yB{b:Nat}:∀{l:List Str},(∀x∈l,Tx b x)->Tx (l.length*(b+2)) ((Str.ofString ", ").join l)
 | [],_=>by rw[Str.join.eq_1];exact⟨mL _,⋯⟩
 | [x],h=>by rw[Str.join.eq_2];exact(h x (ez ..)).mono (by simp)
 | x::y::r,h=>by
  rw[Str.join.eq_3 _ _ _ (λq=>by cases q)];have h1:=h x (ez ..);have h2:=yB (l:=y::r) λz hz=>h z (dP _ hz);have h3:Tx 2 (Str.ofString ", "):=⟨⋯,⋯⟩;refine((h1.app h3).app h2).mono ?_;rw[fJ (a:=x),Nat.add_mul];omega
theorem Dx{b:Nat}{l:List Str}(h:∀x∈l,Tx b x):Tx (l.length*(b+2)+3) (tupleText l):=by
 unfold tupleText;have h1:Tx 1 (Str.ofString "("):=⟨⋯,⋯⟩
 have h2:Tx 2 (Str.ofString (if (l.length==1)=true then ",)" else ")")):=by
  split<;>exact⟨⋯,⋯⟩
 exact((h1.app (yB h)).app h2).mono ∅
theorem yC{b:Nat}:∀{l:List Str}{n a:Nat}{x:Str},Tx a x->(∀x∈l,Tx b x)->Tx (a+l.length*(b+2)) (textFrom n x l)
 | [],_,_,_,h,_=>by rw[textFrom.eq_1];exact h.mono (by simp)
 | t::ts,n,a,x,h,k=>by
  rw[textFrom.eq_2];have h2:Tx 2 (Str.ofString (if n>0 then ", " else "")):=by split<;>exact⟨⋯,⋯⟩
  refine(yC (l:=ts) (n:=n+1) ((h.app h2).app (k t (ez ..))) λz hz=>k z (dP _ hz)).mono ?_;rw[fJ,Nat.add_mul];omega
theorem Hf{b:Nat}{l:List Str}(h:∀x∈l,Tx b x):Tx (l.length*(b+2)+2) (listText l):=by
 unfold listText;have h1:Tx 1 (Str.ofString "["):=⟨⋯,⋯⟩;have h2:Tx 1 (Str.ofString "]"):=⟨⋯,⋯⟩;exact((yC h1 h).app h2).mono ∅
def o_(b h:Nat)(p:PyData):Prop:=p.canLay0=true/\p.showable=true/\p.depth<=h/\Tx b p.shown
def Sm(b h:Nat)(d:D):Prop:=∃p:PyData,(∀M n,h<=n->cB M n d=some p)/\o_ b h p
theorem Sm.mono{b c h k:Nat}{d:D}(x:Sm b h d)(hb:b<=c)(hk:h<=k):Sm c k d:=by
 obtain⟨p,e,q1,q2,q3,q4⟩:=x;exact⟨p,λM n hn=>e M n ∅,q1,q2,∅,q4.mono hb⟩
theorem Sm.aL:Sm 4 0 .aL:=⟨.none,λM n _=>by cases n<;>(unfold cB;rfl),PyData.canLay0.eq_1,PyData.showable.eq_1,vB PyData.depth.eq_4,by rw[PyData.shown.eq_1];exact⟨⋯,⋯⟩⟩
theorem wK:∀i:Fin 100,(Str.ofString (toString ((i.val:Nat):Int))).length<=2/\PyData.strOk (Str.ofString (toString ((i.val:Nat):Int)))=true/\(PyData.int ((i.val:Nat):Int)).showable=true:=⋯
theorem Sm.int{i:Int}(h0:0<=i)(h1:i<100):Sm 2 0 (.int i):=by
 have q:=wK ⟨i.toNat,∅⟩;have e:((i.toNat:Nat):Int)=i:=∅;simp only[e]at q;exact⟨.int i,λM n _=>by cases n<;>(unfold cB;rfl),sM i,q.2.2,vB (sP i),by rw[PyData.shown.eq_3];exact⟨q.1,q.2.1⟩⟩
theorem Sm.str{x:Str}{b:Nat}(h:PyData.strOk x=true)(k:Tx b (reprText x)):Sm b 0 (.str x) :=
 ⟨.str x,λM n _=>by cases n<;>(unfold cB;rfl),(yR x).trans h,PyData.showable.eq_3 x,vB (yV x),by rw[PyData.shown.eq_4];exact k⟩
theorem o_.all{b h:Nat}:∀{ps:List PyData},(∀p∈ps,o_ b h p)->PyData.canLayAll0 ps=true/\PyData.showableAll ps=true/\PyData.depthAll ps<=h/\(∀x∈PyData.shownAll ps,Tx b x)/\(PyData.shownAll ps).length=ps.length
 | [],_=>⟨vk,PyData.showableAll.eq_1,by rw[vp];omega,by rw[PyData.shownAll.eq_1];intro x h;(cases h),by rw[PyData.shownAll.eq_1];rfl⟩
 | p::ps,q=>by
  obtain⟨a1,a2,a3,a4,a5⟩:=o_.all (ps:=ps) λp hp=>q p (dP _ hp);obtain⟨b1,b2,b3,b4⟩:=q p (ez ..);refine⟨by rw[vm,a1,b1];rfl,by rw[PyData.showableAll.eq_2,a2,b2];rfl,by rw[vq];omega,?_,by rw[PyData.shownAll.eq_2,fJ,a5,fJ]⟩;rw[PyData.shownAll.eq_2];intro x hx;rcases bT.mp hx with rfl | hx
  ·exact b4
  ·exact a4 x hx
theorem o_.tup{b h k:Nat}{ps:List PyData}(q:∀p∈ps,o_ b h p)(hk:ps.length<=k):o_ (k*(b+2)+3) (h+1) (.tuple ps):=by
 obtain⟨a1,a2,a3,a4,a5⟩:=o_.all q;refine⟨(yS ps).trans a1,(PyData.showable.eq_6 ps).trans a2,by rw[yW];omega,?_⟩;rw[PyData.shown.eq_6];refine(Dx a4).mono ?_;rw[a5];exact Nat.add_le_add_right (Nat.mul_le_mul_right _ hk) _
theorem o_.list{b h k:Nat}{ps:List PyData}(q:∀p∈ps,o_ b h p)(hk:ps.length<=k):o_ (k*(b+2)+2) (h+1) (.list ps):=by
 obtain⟨a1,a2,a3,a4,a5⟩:=o_.all q;refine⟨(PyData.canLay0.eq_5 ps).trans a1,(PyData.showable.eq_5 ps).trans a2,by rw[PyData.depth.eq_1];omega,?_⟩;rw[PyData.shown.eq_5];refine(Hf a4).mono ?_;rw[a5];exact Nat.add_le_add_right (Nat.mul_le_mul_right _ hk) _
theorem Sm.ds{b h:Nat}:∀{ds:List D},(∀d∈ds,Sm b h d)->∃ps,(∀M n,h<=n->bp M n ds=some ps)/\(∀p∈ps,o_ b h p)/\ps.length=ds.length
 | [],_=>⟨[],λM n _=>by unfold bp;rfl,(by intro p h;cases h),rfl⟩
 | d::ds,q=>by
  obtain⟨ps,e,a,l⟩:=Sm.ds (ds:=ds) λd hd=>q d (dP _ hd);obtain⟨p,ep,ap⟩:=q d (ez ..);refine⟨p::ps,λM n hn=>by unfold bp;rw[ep M n hn,e M n hn],?_,by simp[l]⟩;intro x hx;rcases bT.mp hx with rfl | hx
  ·exact ap
  ·exact a x hx
theorem Sm.tup{b h k:Nat}{ds:List D}(q:∀d∈ds,Sm b h d)(hk:ds.length<=k):Sm (k*(b+2)+3) (h+1) (.tup ds):=by
 obtain⟨ps,e,a,l⟩:=Sm.ds q;refine⟨.tuple ps,λM n hn=>?_,o_.tup a ∅⟩;obtain⟨n,rfl⟩:∃m,n=m+1:=⟨n-1,∅⟩;unfold cB;rw[e M n ∅];rfl
theorem o_.shaped{b h:Nat}{p:PyData}(q:o_ b h p)(hh:h<=40):SeqAt.shaped p=true:=by
 unfold SeqAt.shaped;rw[q.1,E1];exact fX (by have:=q.2.2.1;omega)
theorem Hg{b h:Nat}{d:D}(q:Sm b h d)(hb:b<=1000000)(hh:h<=30):∃x,PyData.strOk x=true/\∀M,iL .fC [.d d] M=.ok (.d (.str x)) M:=by
 obtain⟨p,e,q1,q2,q3,q4,q5⟩:=q;refine⟨p.shown,q5,λM=>?_⟩;unfold iL;have:gS M (.d d)=some p:=e M 30 hh
 try simp only[this]
 rw[aF ⟨q2,∅,bJ (bJ q4 hb) (by decide)⟩]
noncomputable def nY(s:Int)(c:Str):D->Bool
 | .tup (.int s'::.str c'::_)=>s'==s&&c'==c
 | _=>false
def Dy:D->D
 | .tup (_::_::r)=>.tup r
 | d=>d
def Et(cD:List D)(s:Int)(c:Str):D:=match cD.find? (nY s c)with
 | some d=>Dy d
 | none=>if c == "own" then .aL else .tup [.int s,.tup [],.aL]
theorem bg:PyData.strOk "own" = true:=⋯
theorem uC{x:Str} (h:x = "own" \/ x = "a" \/ x = "b" \/ x = "z"):PyData.strOk x=true:=by
 rcases h with rfl | rfl | rfl | rfl<;>decide +kernel
theorem Mk{M:ag}{s s':Int}{c c':Str}(hc:PyData.strOk c=true)(ze:PyData.strOk c'=true):aZ .eq (.d (.tup [.int s',.str c'])) (.d (.tup [.int s,.str c])) M=.ok (s'==s&&c'==c) M:=by
 have h1:∀(s:Int)(c:Str),gS M (.d (.tup [.int s,.str c]))=some (.tuple [.int s,.str c]):=λs c=>by
  show cB M 30 (.tup [.int s,.str c])=_
  try simp only[cB,bp,vv]
 have h2:∀(s:Int){c:Str},PyData.strOk c=true->SeqAt.shaped (.tuple [.int s,.str c])=true:=λs c h=>by
  unfold SeqAt.shaped
  try simp only[yS,vm,vk,sM,yR,h,yW,vq,vp,sP,yV]
  rfl
 unfold aZ
 try simp only[h1,h2 _ hc,h2 _ ze,jc,dA,PyData.eqv.eq_8,PyData.eqvAll.eq_2,ET,AW,PyData.eqv.eq_6,Bool.and_true]
theorem z8{α:Type}{p:α->Bool}{l:List α}{k:Nat}{x:α}(h:l[k]?=some x)(hn:(l.take k).find? p=none)(hp:p x=true):l.find? p=some x:=by
 have hk:=(bG.mp h).1
 have e:l=l.take k++(x::l.drop (k+1)):=by
  have:l.drop k=x::l.drop (k+1):=by
   rw[List.drop_eq_getElem_cons hk]
   congr 1
   rw[bZ hk]at h;exact cR h
  rw[<- this,Jr]
 rw[e,List.find?_append,hn];simp[hp]
def ki(F:Fn):Prop:=∀(P:Int->Prop)(M:ag)(bt a8 cD:List D)(st:D)(m:Nat)(s:Int)(c:Str),bt[m]?=some (.tup [st,.tup cD])->(∀y∈cD,kh P y)->PyData.strOk c=true ->
 aH (F [.tup [.tup bt,.tup a8],.int m,.int s,.str c] M) λr M'=>M=M'/\r=.d (Et cD s c)
theorem Dz{ds:List D}{m:Nat}{x:D}(h:ds[m]?=some x):ds[((m:Nat):Int).toNat]?=some x:=by rw[yT];exact h
theorem Hh{G:a_}:ki (ah G 5 rK):=by
 intro P M bt a8 cD st m s c hm IM hc;rw[bf];show du G rK [some (.tup [.tup bt,.tup a8]),some (.int m),some (.int s),some (.str c),none] M _ _ _ _;nofun;rw[mq (M:=M) (ds:=bt) (i:=(m:Nat)) ∅ (Dz hm)];nofun;refine mw (ds:=cD) (λk ρ M'=>∃o4,M=M'/\ρ=[some (.tup [.tup bt,.tup a8]),some (.int m),some (.int s),some (.str c),o4]/\(cD.take k).find? (nY s c)=none) ⟨none,rfl,rfl,by simp⟩ ?_ ?_
 ·rintro k ρ M' d hd ⟨o4,rfl,rfl,pY⟩;obtain⟨s',c',a,sd,wd,rfl,⟨i,rfl,_,_⟩,⟨cx,rfl,VW⟩,_⟩:=IM d (fw hd)
  have NF:(i==s&&cx==c)=false->(cD.take (k+1)).find? (nY s c)=none:=λq=>by
   rw[cM hd,List.find?_append,pY]
   try simp only[i_,nY,q]
   rfl
  nofun
  cases q:(i==s)with
  | true =>
   nofun;rw[bo (uC VW) hc]
   cases q2:(cx==c)with
   | true =>
    nofun;refine⟨(show(3:Nat)<=sizeLine by decide),rfl,?_⟩;unfold Et;rw[z8 hd pY (by simp[nY,q,q2])];rfl
   | false=>exact⟨_,rfl,rfl,NF (by simp[q2])⟩
  | false=>exact⟨_,rfl,rfl,NF (by simp[q])⟩
 ·rintro ρ M' ⟨o4,rfl,rfl,pY⟩;rw[jE]at pY;nofun;rw[bo hc bg]
  cases q:(c == "own")with
  | true =>
   refine⟨rfl,?_⟩;unfold Et;rw[pY];show _=W.d (if (c == "own")=true then _ else _);rw[q];rfl
  | false =>
   nofun;refine⟨(show(0:Nat)<=sizeLine by decide),?_⟩;nofun;refine⟨(show(3:Nat)<=sizeLine by decide),rfl,?_⟩;unfold Et;rw[pY];show _=W.d (if (c == "own")=true then _ else _);rw[q];rfl
theorem Hi{d:D}(h:yx d):Sm 12 0 d:=by
 rcases h with rfl | ⟨x,rfl,h⟩
 ·exact Sm.aL.mono (by decide) (by decide)
 ·rcases h with rfl | rfl | rfl | rfl | rfl<;>exact Sm.str ⋯ ⟨⋯,⋯⟩
theorem Q5{d:D}(h:wI d):Sm 2 0 d:=by
 obtain⟨i,rfl,h0,h1⟩:=h;exact Sm.int h0 h1
theorem Hj{P:Int->Prop}(hP:∀r,P r->0<=r/\r<100){d:D}(h:yw P d):Sm 20 1 d:=by
 obtain⟨r,c,rfl,h1,h2⟩:=h;have hc:Sm 3 0 (.str c):=by rcases h2 with rfl | rfl | rfl | rfl<;>exact Sm.str ⋯ ⟨⋯,⋯⟩
 refine(Sm.tup (b:=3) (h:=0) (k:=2) (ds:=[.int r,.str c]) ?_ (aE 2)).mono (by decide) (by decide);intro d hd;simp only[bT,fW,fb]at hd;rcases hd with rfl | rfl
 ·exact(Sm.int (hP r h1).1 (hP r h1).2).mono (by decide) (by decide)
 ·exact hc
theorem Ml{P:Int->Prop}(hP:∀r,P r->0<=r/\r<100){d:D}(h:kh P d):Sm 300 3 (Dy d):=by
 obtain⟨s,c,a,sd,wd,rfl,_,_,ha,hl,nX,hw⟩:=h;show Sm 300 3 (.tup [a,.tup sd,wd]);have h1:Sm 69 2 (.tup sd):=Sm.tup (b:=20) (h:=1) (k:=3) (λx hx=>Hj hP (nX x hx)) hl;refine(Sm.tup (b:=69) (h:=2) (k:=3) (ds:=[a,.tup sd,wd]) ?_ (aE 3)).mono (by decide) (by decide);intro d hd;simp only[bT,fW,fb]at hd;rcases hd with rfl | rfl | rfl
 ·exact(Q5 ha).mono (by decide) (by decide)
 ·exact h1
 ·exact(Hi hw).mono (by decide) (by decide)
theorem Mm{M:ag}{n:Nat}{ds:List D}{b h:Nat}(hM:M[n]?=some (.lst ds))(q:∀d∈ds,Sm b h d)(hl:ds.length<=1000)(hh:h<=20):aZ .ne (.d (.aw n)) (.lv []) M=.ok (!ds.isEmpty) M:=by
 obtain⟨ps,e,a,l⟩:=Sm.ds q
 have h1:gS M (.d (.aw n))=some (.list ps):=by
  show cB M 30 (.aw n)=_;unfold cB
  try simp only[hM]
  rw[e M 29 ∅];rfl
 have h2:gS M (.lv [])=some (.list []):=by show(bp M 30 []).map _=_;unfold bp;rfl
 have h3:=(o_.list (k:=1000) a ∅).shaped ∅;have h4:SeqAt.shaped (.list [])=true:=⋯;unfold aZ
 try simp only[h1,h2,h3,h4,jc,dA,PyData.eqv.eq_7]
 cases ds with
 | nil =>
  have:ps=[]:=Jf l;subst this;rw[ET];rfl
 | cons d ds =>
  cases ps with
  | nil=>simp at l
  | cons p ps =>
   have:PyData.eqvAll (p::ps) []=false:=by simp only[PyData.eqvAll]
   rw[this];rfl
def mB(F:Fn):Prop:=∀(P:Int->Prop)(M:ag)(bt a8 cD:List D)(st:D)(m:Nat)(s:Int)(c:Str),(∀r,P r->0<=r/\r<100)->bt[m]?=some (.tup [st,.tup cD])->(∀y∈cD,kh P y)->cD.length<=28->PyData.strOk c=true ->
 aH (F [.tup [.tup bt,.tup a8],.int m,.int s,.str c] M) λr M'=>Fr M.length M M'/\r=.d (Et cD s c)
theorem uD{α:Type}{p:α->Bool}{l:List α}{k:Nat}{x:α}(h:l[k]?=some x):(l.take (k+1)).filter p=(l.take k).filter p++(if p x then [x] else []):=by
 rw[cM h,List.filter_append];cases q:p x<;>simp[q]
theorem uE{α:Type}{p:α->Bool}{l:List α}:l.find? p=(l.filter p).head?:=by
 induction l with
 | nil=>rfl
 | cons x l ih =>
  cases q:p x
  ·rw[List.find?_cons_of_neg (by simp[q]),List.filter_cons_of_neg (by simp[q])];exact ih
  ·rw[List.find?_cons_of_pos q,List.filter_cons_of_pos q];rfl
theorem Hk{G:a_}:mB (ah G 5 rM):=by
 intro P M bt a8 cD st m s c hP hm IM Xw hc;rw[bf];show du G rM [some (.tup [.tup bt,.tup a8]),some (.int m),some (.int s),some (.str c),none] M _ _ _ _;nofun;rw[mq (M:=M) (ds:=bt) (i:=(m:Nat)) ∅ (Dz hm)];nofun;refine kg (ds:=cD) (λk M' acc=>M=M'/\acc=((cD.take k).filter (nY s c)).map Dy/\acc.length<=k) (by decide) (λi M' acc _ _=>rfl) ⟨rfl,by simp,aE _⟩ ?_ ?_ rfl
 ·rintro k M' acc d hd ⟨rfl,z9,NI⟩;have hk:=(bG.mp hd).1;refine⟨bq ∅,?_⟩;obtain⟨s',c',a,sd,wd,rfl,⟨i,rfl,_,_⟩,⟨cx,rfl,VW⟩,_⟩:=IM d (fw hd);have hn:=uD (p:=nY s c) hd;nofun;refine⟨(show(2:Nat)<=sizeLine by decide),?_⟩;show eI (aZ .eq (.d (.tup [.int i,.str cx])) (.d (.tup [.int s,.str c])) M) _;rw[Mk hc (uC VW)]
  cases q:(i==s&&cx==c)with
  | true =>
   nofun;refine⟨rfl,?_,by simp;omega⟩;rw[hn,aF (show nY s c (.tup [.int i,.str cx,a,.tup sd,wd])=true from q),gy,z9];rfl
  | false =>
   refine⟨rfl,?_,∅⟩;rw[hn,aP (show ¬nY s c (.tup [.int i,.str cx,a,.tup sd,wd])=true from λz=>by rw[show nY s c (.tup [.int i,.str cx,a,.tup sd,wd])=false from q]at z;cases z),oK,z9]
 ·rintro M' told ⟨rfl,z9,NI⟩;rw[jE]at z9;have hM:(M++[MO.lst told])[M.length]?=some (.lst told):=av
  have Mn:∀d∈told,Sm 300 3 d:=by
   intro d hd;rw[z9]at hd;obtain⟨y,hy,rfl⟩:=fK.mp hd;exact Ml hP (IM y (yY.mp hy |>.1))
  nofun;refine⟨(show(0:Nat)<=sizeLine by decide),?_⟩;nofun;rw[Mm hM Mn ∅ (by decide)]
  have wL:Et cD s c=told.head?.getD (if c == "own" then .aL else .tup [.int s,.tup [],.aL]):=by
   unfold Et;rw[uE,z9,List.head?_map];cases (cD.filter (nY s c)).head? <;> rfl
  cases told with
  | cons d r =>
   nofun;rw[bN hM (i:=0) (x:=d) (oM 0) rfl];exact⟨(Fr.refl _ M).app,by rw[wL];rfl⟩
  | nil =>
   nofun;rw[bo hc bg];have wL:Et cD s c=if (c == "own")=true then .aL else .tup [.int s,.tup [],.aL]:=wL
   cases q:(c == "own")with
   | true =>
    rw[q]at wL;exact⟨(Fr.refl _ M).app,by rw[wL];rfl⟩
   | false =>
    rw[q]at wL;nofun;refine⟨(show(0:Nat)<=sizeLine by decide),?_⟩;nofun;refine⟨(show(3:Nat)<=sizeLine by decide),(Fr.refl _ M).app,?_⟩;rw[wL];rfl
end Ev
end
section
namespace Ev
open PySem
noncomputable def nZ:List S:=[.ret (.eC [(.bi (.pL .int) [0]),(.neg (.bi (.pL .bool) [0]))])]
noncomputable def lq(cy:Nat):List S:=[.ret (.eC [(.call cy [0]),(.chain .le .lt (.kn 0) 0 1)])]
noncomputable def uF:List S:=[.ret (.eC [(.bi (.pL .str) [0]),(.cmp .eq (.bi .len [0]) (.kn 1)),(.chain .le .le (.bb (.str "a")) 0 (.bb (.str "z")))])]
noncomputable def wM:List S:=[.ret (.bi .list1 [(.sub (.sub (.ks 0 1) 1) (.kn 1))])]
def n_(eR:Nat)(kj:Nat)(cy:Nat):List S:=[.iff (.gj [(.neg (.val (.bi (.pL .tuple) [1]))),(.val (.cmp .cT (.bi .len [1]) (.tup [(.kn 2),(.kn 3)])))]) [.ret (.bb (.bl false))] [],.iff (.val (.cmp .eq (.bi .len [1]) (.kn 2))) [.ret (.eC [(.cmp .eq (.ks 1 0) (.bb (.str "own"))),(.call eR [(.ks 1 1),(.bi .len [(.ks 0 0)])])])] [],.iff (.val (.cmp .eq (.ks 1 0) (.bb (.str "hear")))) [.ret (.eC [(.call eR [(.ks 1 1),(.bi .len [(.ks 0 0)])]),(.call kj [(.ks 1 2)])])] [],.ret (.eC [(.cmp .eq (.ks 1 0) (.bb (.str "come"))),(.call eR [(.ks 1 1),(.bi .len [(.ks 0 1)])]),(.call cy [(.ks 1 2)])])]
noncomputable def DA:List S:=[.iff (.val (.cmp .eq (.ks 1 0) (.bb (.str "come")))) [.ret (.sub (.sub (.ks 0 1) (.ks 1 1)) (.kn 1))] [],.ret (.ks 1 1)]
def Mo(fv:Nat):List S:=[.asg [3] (.call fv [1,2]),.iff (.val (.cmp .eq (.sub (.sub (.ks 0 1) 2) (.kn 2)) (.bb (.str "row")))) [.asg [3] (.jz 3 none (some (.kn 1)))] [],.ret (.comp .seq [3] [1,2] none 1 [none,none,none])]
def DB(gO:Nat)(kAnswer:Nat)(uG:Nat):List S:=[.iff (.neg (.val (.call gO [0,2]))) [.ret (.bb (.bl false))] [],.iff (.val (.cmp .eq (.ks 2 0) (.bb (.str "own")))) [.ret (.cmp .fy (.call kAnswer [0,(.ks 2 1),(.sub (.ks 1 0) (.ks 2 1)),(.bb (.str "own"))]) (.bb .aL))] [],.iff (.val (.cmp .eq (.ks 2 0) (.bb (.str "come")))) [.ret (.cmp .isin (.ks 2 2) (.call uG [0,1,(.ks 2 1)]))] [],.ret (.bb (.bl true))]
def wN(fv:Nat):List S:=[.iff (.val (.cmp .eq (.ks 1 0) (.bb (.str "own")))) [.ret (.bb (.str "own"))] [],.iff (.val (.cmp .eq (.ks 1 0) (.bb (.str "hear")))) [.ret (.ks 1 2)] [],.ret (.sub (.bi .pM [(.call fv [0,(.ks 1 1)])]) (.ks 1 2))]
def DC:List S:=[.ret (.tup [(.ks 0 0),(.bi .tuple1 [(.comp .seq [(.ks 0 1)] [1] (some (.val (.cmp .ne (.ks 1 0) 2))) 1 [none,none,some 1])])])]
noncomputable def DD:List S:=[.ret (.tup [(.bin .add (.ks 0 0) (.kn 1)),(.bin .add (.ks 0 1) (.tup [(.tup [(.ks 0 0),1])]))])]
def DE(uH:Nat)(kAnswer:Nat)(og:Nat)(uI:Nat)(iY:Nat):List S:=[.asg [3] (.call uH [0,2]),.asg [4] (.call kAnswer [0,3,(.sub (.ks 1 0) 3),(.call og [1,2])]),.asg [5] (.bi .list1 [(.ks 1 0)]),.put 5 3 (.ks 4 0),.asg [6] (.bi .list1 [(.ks 1 1)]),.iff (.val (.cmp .eq (.ks 2 0) (.bb (.str "come")))) [.put 6 (.ks 2 1) (.call uI [(.sub 6 (.ks 2 1)),(.ks 2 2)])] [],.dD [7,8] .seq [(.ks 4 1)] [.put 6 7 (.call iY [(.sub 6 7),8])],.asg [9] (.bb .aL),.iff (.val (.cmp .fy (.ks 4 2) (.bb .aL))) [.asg [9] (.tup [3,(.ks 4 2)])] [],.ret (.tup [(.tup [(.bi .tuple1 [5]),(.bi .tuple1 [6])]),9])]
def rP:List S:=[.asg [2] (.lst []),.dD [3] .fT [(.bi .len [(.ks 0 1)])] [.asg [4] (.bi .list1 [(.sub (.sub (.ks 1 1) 3) (.kn 1))]),.iff (.val (.cmp .eq (.sub (.sub (.ks 0 1) 3) (.kn 2)) (.bb (.str "row")))) [.asg [4] (.jz 4 none (some (.kn 1)))] [],.asg [2] (.bin .add 2 (.comp .seq [4] [1,2] none (.tup [3,1,2]) [none,none,none,some 3]))],.ret 2]
def wQ(pZ:Nat)(cQ:Nat):List S:=[.iff (.val (.cmp .ne (.ks 2 0) (.bb (.str "come")))) [.asg [3] (.ks 2 1),.ret (.call pZ [0,3,(.sub (.ks 1 0) 3),(.sub (.Aw 2 2) (.kn (-1)))])] [],.dD [4,5,6] .seq [(.call cQ [0,1])] [.iff (.val (.cmp .eq (.tup [4,5]) (.jz 2 (some (.kn 1)) none))) [.asg [3] (.sub (.sub (.ks 0 1) 4) (.kn 1)),.ret (.call pZ [0,3,(.sub (.ks 1 0) 3),6])] []],.ret (.bb .aL)]
noncomputable def wR:List S:=[.ret (.ite (.val (.cmp .eq (.ks 1 0) (.bb (.str "come")))) (.sub (.sub (.ks 0 1) (.ks 1 1)) (.kn 1)) (.ks 1 1))]
def wU(d8:Nat)(oh:Nat):List S:=[.asg [3,4,5] (.call d8 [0,1,2]),.asg [6] (.call oh [0,2]),.asg [7] (.bi .list1 [(.ks 1 0)]),.put 7 6 3,.jt 9 (.comp .seq [(.ks 1 1)] [1] none (.lst [(.ks 1 0),(.bi .list1 [(.ks 1 1)])]) [none,none]),.iff (.val (.cmp .eq (.ks 2 0) (.bb (.str "come")))) [.asg [8] (.sub 9 (.ks 2 1)),.put 8 (.kn 1) (.comp .seq [(.ks 8 1)] [1] (some (.val (.cmp .ne (.ks 1 0) (.ks 2 2)))) 1 [none,none,some 2])] [],.dD [10,11] .seq [4] [.expr (.me .append (.sub (.sub 9 10) (.kn 1)) [(.tup [(.sub (.sub 9 10) (.kn 0)),11])]),.put (.sub 9 10) (.kn 0) (.bin .add (.sub (.sub 9 10) (.kn 0)) (.kn 1))],.asg [12] (.bi .tuple1 [(.comp .seq [9] [1] none (.tup [(.ks 1 0),(.bi .tuple1 [(.ks 1 1)])]) [none,none])]),.ret (.tup [(.tup [(.bi .tuple1 [7]),12]),(.ite (.val (.cmp .qT 5 (.bb .aL))) (.bb .aL) (.tup [6,5]))])]
noncomputable def wV(ao:Nat):List S:=[.asg [2] (.lst [(.kn 0),(.call ao [0,(.kn 6)]),(.call ao [0,(.bin .sub (.bin .pow (.kn 10) (.kn 9)) (.kn 1000))])]),.asg [3] (.sub 2 (.bin .fdiv (.call ao [0,(.kn 5)]) (.kn 2))),.asg [4] (.lst []),.asg [5] 3,.dD [6] .fT [(.bi .min2 [3,(.call ao [0,(.kn 4)])])] [.asg [5] (.bin .sub (.bin .sub 5 (.kn 1)) (.bin .mul (.bi .qU [(.cmp .eq 1 (.bb (.str "heap")))]) (.call ao [0,(.kn 3)]))),.iff (.val (.cmp .ge 5 (.kn 0))) [.expr (.me .insert 4 [(.kn 0),(.tup [5,(.sub (.bb (.str "abcz")) (.call ao [0,(.kn 4)]))])])] []],.ret (.tup [3,(.bi .tuple1 [4])])]
def rQ(cw:Nat)(ao:Nat)(om:Nat):List S:=[.asg [2] (.call cw [0,(.kn 5)]),.asg [3] (.bi .tuple1 [(.comp .seq [(.ks 1 1)] [1] none (.tup [(.kn 0),(.tup [])]) [none,none])]),.asg [4] (.bi .tuple1 [(.comp .seq [(.ks 1 0)] [1] none (.ks 1 0) [none,none])]),.iff (.val (.cmp .gt (.call ao [2,(.kn 3)]) (.kn 0))) [.asg [3] (.bi .tuple1 [(.comp .seq [(.ks 1 1)] [1] none (.call om [2,(.ks 1 2)]) [none,none,some 2])]),.iff (.val (.cmp .eq (.call ao [2,(.kn 4)]) (.kn 0))) [.asg [4] (.bi .tuple1 [(.comp .seq [(.ks 1 0)] [1] none (.call ao [2,(.kn 100)]) [none,none,some 2])])] []] [],.ret (.tup [4,3])]
def rR(cQ:Nat)(d8:Nat)(ao:Nat):List S:=[.jt 3 (.comp .seq [(.call cQ [1,2])] [1,2,3] none (.tup [(.bb (.str "come")),1,2]) [none,none,none,none]),.asg [4] (.lst []),.dD [5] .fT [(.bi .len [(.ks 1 0)])] [.iff (.val (.cmp .fy (.call d8 [1,2,(.tup [(.bb (.str "own")),5])]) (.bb .aL))) [.expr (.me .append 4 [(.tup [(.bb (.str "own")),5])])] []],.asg [6] (.call ao [0,(.kn 8)]),.iff (.eC [(.val (.cmp .ne 3 (.lst []))),(.val (.cmp .lt 6 (.kn 4)))]) [.ret (.sub 3 (.call ao [0,(.bi .len [3])]))] [],.iff (.eC [(.val (.cmp .ne 4 (.lst []))),(.val (.cmp .lt 6 (.kn 7)))]) [.ret (.sub 4 (.call ao [0,(.bi .len [4])]))] [],.ret (.tup [(.bb (.str "hear")),(.call ao [0,(.bi .len [(.ks 1 0)])]),(.sub (.bb (.str "abcz")) (.call ao [0,(.kn 4)]))])]
end Ev
end
section
namespace Ev
open L2
open PySem PySem.Spec PyProof.Rows
structure Mv where
 s:Int
 c:Str
 a:Int
 sd:List (Int×Str)
 w:Option Str
structure Fm where
 ru:List (Int×List Mv)
 ro:List (Int×Int×Str)
structure Sd where
 st:List Int
 ld:List (Int×List (Int×Str))
def pD(p:Int×Str):D:=.tup [.int p.1,.str p.2]
def Mp:Option Str->D
 | none=>.aL
 | some x=>.str x
noncomputable def IP(m:Mv):D:=.tup [.int m.s,.str m.c,.int m.a,.tup (m.sd.map pD),Mp m.w]
def Eu(r:Int×List Mv):D:=.tup [.int r.1,.tup (r.2.map IP)]
noncomputable def z_(r:Int×Int×Str):D:=.tup [.int r.1,.int r.2.1,.str r.2.2]
def da(f:Fm):D:=.tup [.tup (f.ru.map Eu),.tup (f.ro.map z_)]
noncomputable def lK(l:Int×List (Int×Str)):D:=.tup [.int l.1,.tup (l.2.map pD)]
def cA(s:Sd):D:=.tup [.tup (s.st.map D.int),.tup (s.ld.map lK)]
inductive Dn where
 | own (m:Nat) | dE (m:Nat) (c:Str) | bE (r:Nat) (k:Int)
def dw:Dn->D
 | .own m=>.tup [.str "own",.int m]
 | .dE m c=>.tup [.str "hear",.int m,.str c]
 | .bE r k=>.tup [.str "come",.int r,.int k]
noncomputable def dO(s:Str):Prop:=s = "a" \/ s = "b" \/ s = "c" \/ s = "z"
theorem dO.ok{s:Str}(h:dO s):PyData.strOk s=true/\(s == "own")=false:=by
 rcases h with rfl | rfl | rfl | rfl<;>exact⟨⋯,⋯⟩
def Aa(w:Option Str):Prop:=∀x,w=some x->x = "x" \/ x = "yes" \/ x = "abcdefgh" \/ x = "own" \/ x = "a"
structure Ab (ro:List (Int×Int×Str)) (m:Nat) (y:Mv):Prop where
 s:0<=y.s/\y.s<100
 c:y.c = "own" \/ y.c = "a" \/ y.c = "b" \/ y.c = "z"
 a:0<=y.a/\y.a<100
 l:y.sd.length<=3
 sd:∀p∈y.sd,dO p.2/\0<=p.1/\∃r,ro[p.1.toNat]?=some r/\r.1=m
 w:Aa y.w
structure DF (n:Nat) (r:Int×Int×Str):Prop where
 a:0<=r.1/\r.1<n
 b:0<=r.2.1/\r.2.1<n
 ab:r.1≠r.2.1
 k:r.2.2 = "row" \/ r.2.2 = "heap"
structure bV (f:Fm):Prop where
 l1:1<=f.ru.length
 l4:f.ru.length<=4
 l8:f.ro.length<=8
 ro:∀r∈f.ro,DF f.ru.length r
 ru:∀m x,f.ru[m]?=some x->(0<=x.1/\x.1<100)/\x.2.length<=28/\∀y∈x.2,Ab f.ro m y
structure fV (N:Nat) (l:Int×List (Int×Str)):Prop where
 s:0<=l.1/\l.1<=1000000000+N
 n:l.2.length<=N
 p:∀p∈l.2,dO p.2/\0<=p.1/\p.1<l.1
 r:l.2.Pairwise λp q=>p.1<q.1
structure bz (f:Fm) (N:Nat) (s:Sd):Prop where
 ls:s.st.length=f.ru.length
 st:∀x∈s.st,0<=x/\x<100
 ll:s.ld.length=f.ro.length
 ld:∀l∈s.ld,fV N l
def cX(f:Fm):Dn->Prop
 | .own m=>m<f.ru.length
 | .dE m c=>m<f.ru.length/\dO c
 | .bE r _=>r<f.ro.length
theorem DG{α:Type}{toD:α->D}:∀{ds:List D}{Q:Nat->α->Prop},(∀m x,ds[m]?=some x->∃a,x=toD a/\Q m a)->∃as:List α,ds=as.map toD/\∀m a,as[m]?=some a->Q m a
  | [],Q,_=>⟨[],rfl,λm a h=>by simp at h⟩
  | d::ds,Q,h=>by
    obtain⟨as,e,q⟩:=DG (toD:=toD) (ds:=ds) (Q:=λm a=>Q (m+1) a) λm x hx=>h (m+1) x (by simpa using hx);obtain⟨a,e0,q0⟩:=h 0 d (by simp);refine⟨a::as,by rw[eJ,<- e,e0],λm b hb=>?_⟩
    cases m with
    | zero => have : a = b := by simpa using hb
              subst this;exact q0
    | succ m=>exact q m b (by simpa using hb)
theorem wW{α:Type}{toD:α->D}{ds:List D}{Q:α->Prop}(h:∀x∈ds,∃a,x=toD a/\Q a):∃as:List α,ds=as.map toD/\∀a∈as,Q a:=by
 obtain⟨as,e,q⟩:=DG (toD:=toD) (ds:=ds) (Q:=λ_ a=>Q a) λm x hx=>h x (fw hx);exact⟨as,e,λa ha=>by obtain⟨i,hi,rfl⟩:=EI.mp ha;exact q i _ (bZ hi)⟩
theorem wX{d:D}(h:IK d):∃f,d=da f/\bV f:=by
 obtain⟨bt,a8,rfl,h1,h4,h8,FN,hru⟩:=h
 obtain⟨ro,rfl,SU⟩:=wW (toD:=z_) (ds:=a8) (Q:=DF bt.length) λx hx=>by
  obtain⟨a,b,k,rfl,a0,a1,b0,b1,ab,hk⟩:=FN x hx;exact⟨(a,b,k),rfl,⟨a0,a1⟩,⟨b0,b1⟩,ab,hk⟩
 obtain⟨ru,e,hr⟩:=DG (toD:=Eu) (ds:=bt) (Q:=λm x=>(0<=x.1/\x.1<100)/\x.2.length<=28/\∀y∈x.2,Ab ro m y) λm x hx=>by
  obtain⟨st,cD,rfl,⟨i,rfl,i0,i1⟩,hl,hm⟩:=hru m x hx
  obtain⟨mv,rfl,IM⟩:=wW (toD:=IP) (ds:=cD) (Q:=Ab ro m) λy hy=>by
   obtain⟨s,c,a,sd,wd,rfl,⟨s',rfl,s0,s1⟩,⟨c',rfl,hc⟩,⟨a',rfl,a0,a1⟩,hl,nX,hw⟩:=hm y hy
   obtain⟨sd',rfl,hs⟩:=wW (toD:=pD) (ds:=sd) (Q:=λp=>dO p.2/\0<=p.1/\∃r,ro[p.1.toNat]?=some r/\r.1=(m:Int)) λz hz=>by
    obtain⟨r,c,rfl,⟨r0,b,k,hr⟩,hc⟩:=nX z hz;rw[c_]at hr
    cases e:ro[r.toNat]? with
    | none=>rw[e]at hr;cases hr
    | some q =>
     rw[e]at hr;have hr:z_ q=.tup [.int m,b,k]:=cR hr;refine⟨(r,c),rfl,hc,r0,q,e,?_⟩;unfold z_ at hr;simp only[D.tup.injEq,List.cons.injEq,D.int.injEq]at hr;exact hr.1
   have Ac:∃w,wd=Mp w/\Aa w:=by
    rcases hw with rfl | ⟨x,rfl,hx⟩
    ·exact⟨none,rfl,λx h=>by cases h⟩
    ·exact⟨some x,rfl,λy h=>by cases h;exact hx⟩
   obtain⟨w,rfl,lZ⟩:=Ac;exact⟨⟨s',c',a',sd',w⟩,rfl,⟨s0,s1⟩,hc,⟨a0,a1⟩,by simpa using hl,hs,lZ⟩
  exact⟨(i,mv),rfl,⟨i0,i1⟩,by simpa using hl,IM⟩
 subst e;rw[aB]at h1 h4;exact⟨⟨ru,ro⟩,rfl,h1,h4,by simpa using h8,by simpa using SU,hr⟩
def an(mv:List Mv)(s:Int)(c:Str):Option (Int×List (Int×Str)×Option Str):=match mv.find? λm=>m.s==s&&m.c==c with
 | some m=>some (m.a,m.sd,m.w)
 | none=>if c == "own" then none else some (s,[],none)
noncomputable def Q6:Option (Int×List (Int×Str)×Option Str)->D
 | none=>.aL
 | some (a,sd,w)=>.tup [.int a,.tup (sd.map pD),Mp w]
noncomputable def iu(o:Str)(ps:List (Int×Str)):List (Int×Str):=if (o == "row")=true then ps.take 1 else ps
def p0(f:Fm)(m:Nat):List Mv:=(f.ru.getD m (0,[])).2
def cu(f:Fm)(r:Nat):Int×Int×Str:=f.ro.getD r (0,0,"")
noncomputable def load(s:Sd)(r:Nat):Int×List (Int×Str):=s.ld.getD r (0,[])
def mc(f:Fm):Dn->Nat
 | .own m=>m
 | .dE m _=>m
 | .bE r _=>(cu f r).2.1.toNat
def cs(f:Fm)(s:Sd):Dn->Option Str
 | .own _=>some "own"
 | .dE _ c=>some c
 | .bE r k=>((iu (cu f r).2.2 (load s r).2).find? λp=>p.1==k).map (·.2)
def rp(f:Fm)(s:Sd)(d:Dn):Option (Int×List (Int×Str)×Option Str):=(cs f s d).bind λc=>an (p0 f (mc f d)) (s.st.getD (mc f d) 0) c
def cn(f:Fm)(s:Sd)(d:Dn):Bool:=(rp f s d).isSome
noncomputable def less(l:Int×List (Int×Str))(k:Int):Int×List (Int×Str):=(l.1,l.2.filter λp=>!(p.1==k))
noncomputable def more(l:Int×List (Int×Str))(c:Str):Int×List (Int×Str):=(l.1+1,l.2++[(l.1,c)])
def iw(ld:List (Int×List (Int×Str))):Dn->List (Int×List (Int×Str))
 | .bE r k=>ld.set r (less (ld.getD r (0,[])) k)
 | _=>ld
def dc(ld:List (Int×List (Int×Str)))(sd:List (Int×Str)):List (Int×List (Int×Str)):=sd.foldl (λld p=>ld.set p.1.toNat (more (ld.getD p.1.toNat (0,[])) p.2)) ld
def Mq(f:Fm)(s:Sd)(d:Dn)(x:Int×List (Int×Str)×Option Str):Sd:=⟨s.st.set (mc f d) x.1,dc (iw s.ld d) x.2.1⟩
def Ew(f:Fm)(d:Dn)(x:Int×List (Int×Str)×Option Str):D:=match x.2.2 with
 | none=>.aL
 | some w=>.tup [.int (mc f d),.str w]
theorem oo{α β:Type}{g:α->β}{p:β->Bool}{q:α->Bool}(h:∀a,p (g a)=q a):∀l:List α,(l.map g).find? p=(l.find? q).map g
 | []=>rfl
 | a::l=>by
  have:=oo h l;rw[eJ,i_,i_,h a,this];cases q a<;>rfl
theorem DH{mv:List Mv}{s:Int}{c:Str}:Et (mv.map IP) s c=Q6 (an mv s c):=by
 unfold Et an;rw[oo (q:=λm=>m.s==s&&m.c==c) (λa=>rfl)]
 cases mv.find? (λm=>m.s==s&&m.c==c)with
 | none =>
  show(if (c == "own")=true then D.aL else .tup [.int s,.tup [],.aL])=_;cases hc:(c == "own")<;>rfl
 | some m=>rfl
theorem Ab.md{ro:List (Int×Int×Str)}{m:Nat}{y:Mv}(h:Ab ro m y):kh (λr=>0<=r/\r<ro.length) (IP y):=by
 refine⟨_,_,_,_,_,rfl,⟨_,rfl,h.s⟩,⟨_,rfl,h.c⟩,⟨_,rfl,h.a⟩,by simpa using h.l,?_,?_⟩
 ·intro d hd;obtain⟨p,hp,rfl⟩:=fK.mp hd;obtain⟨h1,h2,r,h3,_⟩:=h.sd p hp;refine⟨_,_,rfl,⟨h2,?_⟩,h1⟩;have:=(bG.mp h3).1;omega
 ·cases hw:y.w with
  | none=>exact .inl rfl
  | some x=>exact .inr ⟨x,rfl,h.w x hw⟩
theorem bV.at{f:Fm}(h:bV f){m:Nat}(hm:m<f.ru.length):(f.ru.map Eu)[m]?=some (.tup [.int (f.ru.getD m (0,[])).1,.tup ((p0 f m).map IP)]):=by
 unfold p0;rw[c_,jB,bZ hm];rfl
theorem bV.mv{f:Fm}(h:bV f){m:Nat}(hm:m<f.ru.length):(p0 f m).length<=28/\∀y∈p0 f m,Ab f.ro m y:=by
 unfold p0;rw[jB,bZ hm];exact(h.ru m _ (bZ hm)).2
theorem bV.Xx{f:Fm}(h:bV f){m:Nat}(hm:m<f.ru.length):∀y∈(p0 f m).map IP,kh (λr=>0<=r/\r<f.ro.length) y:=by
 intro y hy;obtain⟨z,hz,rfl⟩:=fK.mp hy;exact((h.mv hm).2 z hz).md
theorem bV.rd{f:Fm}(h:bV f){r:Nat}(hr:r<f.ro.length):(f.ro.map z_)[r]?=some (.tup [.int (cu f r).1,.int (cu f r).2.1,.str (cu f r).2.2])/\DF f.ru.length (cu f r):=by
 unfold cu;rw[c_,jB,bZ hr];exact⟨rfl,h.ro _ (qk hr)⟩
theorem bz.Hl{f:Fm}{N:Nat}{s:Sd}(h:bz f N s){r:Nat}(hr:r<f.ro.length):(s.ld.map lK)[r]?=some (.tup [.int (load s r).1,.tup ((load s r).2.map pD)])/\fV N (load s r):=by
 have Xy:r<s.ld.length:=by rw[h.ll];exact hr
 unfold load;rw[c_,jB,bZ Xy];exact⟨rfl,h.ld _ (qk Xy)⟩
theorem bz.NX{f:Fm}{N:Nat}{s:Sd}(h:bz f N s){m:Nat}(hm:m<f.ru.length):(s.st.map D.int)[m]?=some (.int (s.st.getD m 0))/\0<=s.st.getD m 0/\s.st.getD m 0<100:=by
 have SM:m<s.st.length:=by rw[h.ls];exact hm
 rw[c_,jB,bZ SM];exact⟨rfl,h.st _ (qk SM)⟩
theorem DF.ok{n:Nat}{r:Int×Int×Str}(h:DF n r):PyData.strOk r.2.2=true:=by
 rcases h.k with e | e<;>rw[e]<;>decide +kernel
theorem cX.mc{f:Fm}(h:bV f){d:Dn}(k:cX f d):mc f d<f.ru.length:=by
 cases d with
 | own m=>exact k
 | dE m c=>exact k.1
 | bE r i =>
  have:=(h.rd k).2.b;show(cu f r).2.1.toNat<_;omega
theorem rS{mv:List Mv}{s:Int}{c:Str}(h:dO c):∃x,an mv s c=some x:=by
 unfold an
 cases mv.find? (λm=>m.s==s&&m.c==c)with
 | some m=>exact⟨_,rfl⟩
 | none=>rw[h.ok.2];exact⟨_,rfl⟩
structure DI (f:Fm) (m:Nat) (x:Int×List (Int×Str)×Option Str):Prop where
 a:0<=x.1/\x.1<100
 l:x.2.1.length<=3
 sd:∀p∈x.2.1,dO p.2/\0<=p.1/\∃r,f.ro[p.1.toNat]?=some r/\r.1=m
 w:Aa x.2.2
theorem Q7{f:Fm}(h:bV f){m:Nat}(hm:m<f.ru.length){s:Int}(hs:0<=s/\s<100){c:Str}{x:Int×List (Int×Str)×Option Str}(e:an (p0 f m) s c=some x):DI f m x:=by
 unfold an at e
 cases q:(p0 f m).find? (λm=>m.s==s&&m.c==c)with
 | some y =>
  rw[q]at e;cases e;have:=(h.mv hm).2 y (EB q);exact⟨this.a,this.l,this.sd,this.w⟩
 | none =>
  rw[q]at e;dsimp only at e;split at e
  ·cases e
  ·cases e;exact⟨hs,by simp,(by intro p hp;cases hp),(by intro x h;cases h)⟩
theorem uJ{f:Fm}(h:bV f){N:Nat}{s:Sd}(k:bz f N s){d:Dn}(hd:cX f d){x:Int×List (Int×Str)×Option Str}(e:rp f s d=some x):DI f (mc f d) x:=by
 unfold rp at e
 cases q:cs f s d with
 | none=>rw[q]at e;cases e
 | some c=>rw[q]at e;exact Q7 h (hd.mc h) (k.NX (hd.mc h)).2 e
section
variable {M:ag} {n:Nat} {ds:List D} {i:Int} {x:D}
abbrev iD(ks:List Int):List D:=ks.map D.int
theorem rT{k:Nat}:∀(ks:List Int),bp M k (iD ks)=some (ks.map PyData.int)
 | []=>by show bp M k []=_;unfold bp;rfl
 | i::ks=>by
  show bp M k (.int i::iD ks)=_;unfold bp;have:cB M k (.int i)=some (.int i):=by cases k<;>(unfold cB;rfl)
  rw[this,rT ks];rfl
theorem rV:∀(ks:List Int),(ks.map PyData.int).all SeqAt.shaped=true
 | []=>rfl
 | i::ks=>by
  show(SeqAt.shaped (.int i)&&(ks.map PyData.int).all SeqAt.shaped)=true;rw[jw,rV ks];rfl
theorem rW{i:Int}:∀(ks:List Int),ia (.int i) (ks.map PyData.int)=decide (i∈ks)
 | []=>by simp[ia]
 | k::ks=>by
  show(PyData.eqv (.int k) (.int i)||ia (.int i) (ks.map PyData.int))=_;rw[rW ks,AW];by_cases h:k=i
  ·subst h;simp
  ·have h2:(k==i)=false:=oJ.mpr h;rw[h2,Bool.false_or];by_cases h3:i∈ks
   ·rw[fX h3,fX (dP _ h3)]
   ·rw[eU h3,eU (λz=>by
     rcases bT.mp z with z | z
     ·exact h z.symm
     ·exact h3 z)]
theorem DJ{i:Int}:gS M (.d (.int i))=some (.int i):=by show cB M 30 (.int i)=_;unfold cB;rfl
theorem wY{i:Int}{ks:List Int}:aZ .cT (.d (.int i)) (.d (.tup (iD ks))) M=.ok (!decide (i∈ks)) M:=by
 unfold aZ;simp only[DJ,bF,rT,jw,rV,jc,dA,rW]
end
theorem bj:PyData.strOk "hear" = true:=⋯
theorem aD:PyData.strOk "come" = true:=⋯
theorem DK:PyData.strOk "row" = true:=⋯
theorem Hm:PyData.strOk "heap" = true:=⋯
theorem DL:(("own" : Str) == "come")=false:=⋯
theorem Ad:(("hear" : Str) == "come")=false:=⋯
theorem uK:(("come" : Str) == "come")=true:=⋯
theorem DM:(("own" : Str) == "own")=true:=⋯
theorem Q8:(("hear" : Str) == "own")=false:=⋯
theorem Q9:(("come" : Str) == "own")=false:=⋯
theorem Mr:(("hear" : Str) == "hear")=true:=⋯
theorem Ms:(("come" : Str) == "hear")=false:=⋯
theorem s1:(1:Nat)<=sizeLine:=by decide
theorem s2:(2:Nat)<=sizeLine:=by decide
theorem s3:(3:Nat)<=sizeLine:=by decide
theorem s0:(0:Nat)<=sizeLine:=by decide
theorem eS{M:ag}{ds:List D}{m:Nat}{x:D}(h:ds[m]?=some x):dh (.d (.tup ds)) (.d (.int m)) M=.ok (.d x) M:=Dh h
def p_(F:Fn):Prop:=∀(M:ag)(f:Fm)(d:Dn),bV f->cX f d->aH (F [da f,dw d] M) λr M'=>M=M'/\r=.d (.int (mc f d))
theorem Q_{G:a_}:p_ (ah G 2 DA):=by
 intro M f d hf hd;rw[bf];show du G DA [some (da f),some (dw d)] M _ _ _ _
 cases d with
 | own m=>nofun;rw[bo bg aD,DL];exact⟨rfl,rfl⟩
 | dE m c=>nofun;rw[bo bj aD,Ad];exact⟨rfl,rfl⟩
 | bE r k =>
  obtain⟨h1,h2⟩:=hf.rd hd;nofun;rw[bo aD aD,uK];nofun;rw[eS h1];refine⟨rfl,?_⟩;show W.d (D.int _)=_;have:=h2.b
  congr 2
  show(cu f r).2.1=(((cu f r).2.1.toNat:Nat):Int);omega
theorem Mt{G:a_}:p_ (ah G 2 wR):=by
 intro M f d hf hd;rw[bf];show du G wR [some (da f),some (dw d)] M _ _ _ _
 cases d with
 | own m=>nofun;rw[bo bg aD,DL];exact⟨rfl,rfl⟩
 | dE m c=>nofun;rw[bo bj aD,Ad];exact⟨rfl,rfl⟩
 | bE r k =>
  obtain⟨h1,h2⟩:=hf.rd hd;nofun;rw[bo aD aD,uK];nofun;rw[eS h1];refine⟨rfl,?_⟩;show W.d (D.int _)=_;have:=h2.b
  congr 2
  show(cu f r).2.1=(((cu f r).2.1.toNat:Nat):Int);omega
def oq(F:Fn):Prop:=∀(M:ag)(i:Int),aH (F [.int i] M) λr M'=>M=M'/\r=.d (.bl true)
theorem Mu{G:a_}:oq (ah G 1 nZ):=by
 intro M i;rw[bf];show du G nZ [some (.int i)] M _ _ _ _;nofun;exact⟨rfl,rfl⟩
def rX(F:Fn):Prop:=∀(M:ag)(i n:Nat),i<n->aH (F [.int i,.int n] M) λr M'=>M=M'/\r=.d (.bl true)
theorem Mx{G:a_}{cy:Nat}(hW:oq (G cy)):rX (ah G 2 (lq cy)):=by
 intro M i n h;rw[bf];show du G (lq cy) [some (.int i),some (.int n)] M _ _ _ _;nofun;refine(hW M i).imp ?_;rintro r M1 ⟨rfl,rfl⟩;nofun;rw[fX (show(i:Int)<n by omega)];exact⟨rfl,rfl⟩
def DN(F:Fn):Prop:=∀(M:ag)(c:Str),dO c->aH (F [.str c] M) λr M'=>M=M'/\r=.d (.bl true)
theorem Ra{G:a_}:DN (ah G 1 uF):=by
 intro M c h;rw[bf];show du G uF [some (.str c)] M _ _ _ _;rcases h with rfl | rfl | rfl | rfl<;>(nofun;exact⟨rfl,rfl⟩)
theorem SV{M:ag}:aZ .cT (.d (.int 2)) (.d (.tup [.int 2,.int 3])) M=.ok false M:=wY (ks:=[2,3])
theorem Rb{M:ag}:aZ .cT (.d (.int 3)) (.d (.tup [.int 2,.int 3])) M=.ok false M:=wY (ks:=[2,3])
def wZ(F:Fn):Prop:=∀(M:ag)(f:Fm)(d:Dn),bV f->cX f d->aH (F [da f,dw d] M) λr M'=>M=M'/\r=.d (.bl true)
theorem My{G:a_}{eR kj cy:Nat}(hB:rX (G eR))(hS:DN (G kj))(hW:oq (G cy)):wZ (ah G 2 (n_ eR kj cy)):=by
 intro M f d hf hd;rw[bf];show du G (n_ eR kj cy) [some (da f),some (dw d)] M _ _ _ _
 cases d with
 | own m =>
  nofun;refine⟨s2,?_⟩;nofun;rw[show(([D.str "own",D.int m].length:Nat):Int)=2 from rfl,SV];nofun;rw[bo bg bg,DM];nofun;exact hB M m _ (by rw[aB];exact hd)
 | dE m c =>
  nofun;refine⟨s2,?_⟩;nofun;rw[show(([D.str "hear",D.int m,D.str c].length:Nat):Int)=3 from rfl,Rb];nofun;rw[bo bj bj,Mr];nofun;refine(hB M m _ (by rw[aB];exact hd.1)).imp ?_;rintro r M1 ⟨rfl,rfl⟩;nofun;exact hS M c hd.2
 | bE r k =>
  nofun;refine⟨s2,?_⟩;nofun;rw[show(([D.str "come",D.int r,D.int k].length:Nat):Int)=3 from rfl,Rb];nofun;rw[bo aD bj,Ms];nofun;rw[bo aD aD,uK];nofun;refine(hB M r _ (by rw[aB];exact hd)).imp ?_;rintro r M1 ⟨rfl,rfl⟩;nofun;exact hW M k
theorem Rc{F:Fn}(hA:ki F){M:ag}{f:Fm}(hf:bV f){m:Nat}(hm:m<f.ru.length){s:Int}{c:Str}(hc:PyData.strOk c=true):aH (F [da f,.int m,.int s,.str c] M) λr M'=>M=M'/\r=.d (Q6 (an (p0 f m) s c)):=by
 refine(hA _ M (f.ru.map Eu) (f.ro.map z_) ((p0 f m).map IP) _ m s c (hf.at hm) (hf.Xx hm) hc).imp λr M' ⟨e1,e2⟩=>⟨e1,?_⟩;rw[e2,DH]
theorem DO{F:Fn}(hA:mB F){M:ag}{f:Fm}(hf:bV f){m:Nat}(hm:m<f.ru.length){s:Int}{c:Str}(hc:PyData.strOk c=true):aH (F [da f,.int m,.int s,.str c] M) λr M'=>Ex M M'/\r=.d (Q6 (an (p0 f m) s c)):=by
 refine(hA _ M (f.ru.map Eu) (f.ro.map z_) ((p0 f m).map IP) _ m s c ?_ (hf.at hm) (hf.Xx hm) (by rw[aB];exact(hf.mv hm).1) hc).imp λr M' ⟨e1,e2⟩=>⟨e1,?_⟩
 ·intro r h;have:=hf.l8;exact⟨h.1,∅⟩
 ·rw[e2,DH]
def rY(F:Fn):Prop:=∀(M:ag)(f:Fm)(N:Nat)(s:Sd)(r:Nat),bz f N s->r<f.ro.length->aH (F [cA s,.int r] M) λo M'=>M=M'/\o=.lv ((load s r).2.map pD)
theorem Mz{G:a_}:rY (ah G 2 wM):=by
 intro M f N s r hs hr;rw[bf];show du G wM [some (cA s),some (.int r)] M _ _ _ _;nofun;rw[eS (hs.Hl hr).1];exact⟨rfl,rfl⟩
theorem VX{ds:List D}:cutD ds none (some 1)=ds.take 1:=by
 unfold cutD;have e1:HT.dG ds.length 0 none=0:=rfl
 have e2:HT.dG ds.length ds.length (some 1)=min 1 ds.length:=by
  show(if (1:Int)<0 then ((1:Int)+(ds.length:Int)).toNat else min (1:Int).toNat ds.length)=min 1 ds.length;rw[aP (by decide)];rfl
 rw[e1,e2];cases ds<;>simp
theorem Rf{M:ag}{n:Nat}{ds:List D}(h:M[n]?=some (.lst ds)):ib (.d (.aw n)) none (some 1) M=.ok (.lv (ds.take 1)) M:=by
 unfold ib;simp only[bF,h,VX]
theorem Hn{o:Str}{ps:List (Int×Str)}{N:Nat}(h:ps.length<=N):(iu o ps).length<=N:=by
 unfold iu;split
 ·rw[dg];omega
 ·exact h
theorem yD{o:Str}{ps:List (Int×Str)}{p:Int×Str}(h:p∈iu o ps):p∈ps:=by
 unfold iu at h;split at h
 ·exact jC h
 ·exact h
noncomputable def Rg:D->Option D
 | .tup [.int i,_]=>some (.int i)
 | _=>none
theorem yE:∀qs:List (Int×Str),(qs.map pD).filterMap Rg=(qs.map (·.1)).map D.int
 | []=>rfl
 | q::qs=>by
  have:=yE qs;rw[eJ,jD,this];rfl
def MB(F:Fn):Prop:=∀(M:ag)(f:Fm)(N:Nat)(s:Sd)(r:Nat),bV f->bz f N s->N<=900->r<f.ro.length->aH (F [da f,cA s,.int r] M) λo M'=>o=.lv (((iu (cu f r).2.2 (load s r).2).map (·.1)).map D.int)/\Ex M M'
theorem uL{G:a_}{M M0:ag}{n:Nat}{ρ:En}{qs:List (Int×Str)}(hM:M[n]?=some (.lst (qs.map pD)))(hl:qs.length<=900){P:W->ag->Prop}(q:∀M',Ex M M'->P (.lv ((qs.map (·.1)).map D.int)) M')(VY:ρ.length=3){k:Nat}(hk:k=(qs.map pD).length):aH (bc (λτ M=>bI G none τ M) (λτ M=>(ev G (.dH 1) τ M).bind own) (.at n) [1,2] k 0 ρ M []) P:=by
 refine uB (ds:=qs.map pD) Rg (by decide) (pV hM) (by rw[aB];exact nR ∅) ?_ ?_ hk
 ·intro i M' d hd f;rw[c_]at hd
  cases e:qs[i]? with
  | none=>rw[e]at hd;cases hd
  | some p =>
   rw[e]at hd;cases hd;rcases ρ with _|⟨a,_|⟨b,_|⟨c,_|_⟩⟩⟩<;>simp at VY;show _/\_;exact⟨rfl,f⟩
 ·intro M' f;rw[yE];exact q M' f
theorem VZ{G:a_}{fv:Nat}(hW:rY (G fv)):MB (ah G 4 (Mo fv)):=by
 intro M f N s r hf hs hN hr;obtain⟨h1,h2⟩:=hf.rd hr;obtain⟨h3,h4⟩:=hs.Hl hr;have h5:=h4.n;rw[bf];show du G (Mo fv) [some (da f),some (cA s),some (.int r),none] M _ _ _ _;nofun;refine(hW M f N s r hs hr).imp ?_;rintro o M2 ⟨rfl,rfl⟩;nofun;have hM:(M++[MO.lst ((load s r).2.map pD)])[M.length]?=some (.lst ((load s r).2.map pD)):=av;rw[eS h1];nofun;rw[bo h2.ok DK]
 cases hq:((cu f r).2.2 == "row")with
 | true =>
  nofun;rw[Rf hM];nofun;have MC:((M++[MO.lst ((load s r).2.map pD)])++[MO.lst (((load s r).2.map pD).take 1)])[(M++[MO.lst ((load s r).2.map pD)]).length]?=some (.lst (((load s r).2.take 1).map pD)):=by rw[vA];exact av
  rw[fu MC];refine uL (M0:=M) MC (by rw[dg];omega) (λM' fr=>?_) rfl (rJ MC);refine⟨?_,Ex.trans (Fr.app (Fr.app (Ex.refl M))) fr⟩;unfold iu;rw[hq,aF rfl]
 | false =>
  nofun;rw[fu hM];refine uL (M0:=M) hM ∅ (λM' fr=>?_) rfl (rJ hM);refine⟨?_,Ex.trans (Fr.app (Ex.refl M)) fr⟩;unfold iu;rw[hq,aP (by simp)]
theorem fV.mono{N N2:Nat}{l:Int×List (Int×Str)}(h:fV N l)(k:N<=N2):fV N2 l:=⟨⟨h.s.1,by have:=h.s.2;omega⟩,by have:=h.n;omega,h.p,h.r⟩
theorem fV.less{N:Nat}{l:Int×List (Int×Str)}(h:fV N l)(k:Int):fV N (less l k) :=
 ⟨h.s,bJ (List.length_filter_le _ _) h.n,λp hp=>h.p p (yY.mp hp).1,h.r.filter _⟩
theorem fV.more{N:Nat}{l:Int×List (Int×Str)}(h:fV N l){c:Str}(hc:dO c):fV (N+1) (more l c):=by
 refine⟨⟨by show 0<=l.1+1;have:=h.s;omega,by show l.1+1<=_;have:=h.s;omega⟩,by show(l.2++_).length<=_;rw[dz];have:=h.n;simp;omega,?_,?_⟩
 ·intro p hp;rcases eV.mp hp with q | q
  ·obtain⟨a,b,c⟩:=h.p p q;exact⟨a,b,by show p.1<l.1+1;omega⟩
  ·have:p=(l.1,c):=by simpa using q
   subst this;exact⟨hc,h.s.1,by show l.1<l.1+1;omega⟩
 ·show(l.2++[(l.1,c)]).Pairwise _;rw[List.pairwise_append];refine⟨h.r,List.pairwise_singleton _ _,λp hp q hq=>?_⟩;have:q=(l.1,c):=by simpa using hq
  subst this;exact(h.p p hp).2.2
theorem rZ{α:Type}{P:α->Prop}{l:List α}{i:Nat}{x:α}(h:∀y∈l,P y)(hx:P x):∀y∈l.set i x,P y:=λy hy=>by
 rcases List.mem_or_eq_of_mem_set hy with z | z
 ·exact h y z
 ·rw[z];exact hx
theorem gq{α:Type}{P:α->Prop}{l:List α}{i:Nat}{d:α}(h:∀y∈l,P y)(hi:i<l.length):P (l.getD i d):=by
 rw[jB,bZ hi];exact h _ (qk hi)
theorem qc{ld:List (Int×List (Int×Str))}{d:Dn}:(iw ld d).length=ld.length:=by
 cases d<;>simp[iw]
theorem ou{N:Nat}{ld:List (Int×List (Int×Str))}{d:Dn}(h:∀l∈ld,fV N l)(hd:∀r k,d=.bE r k->r<ld.length):∀l∈iw ld d,fV N l:=by
 cases d with
 | own m=>exact h
 | dE m c=>exact h
 | bE r k=>exact rZ h ((gq h (hd r k rfl)).less k)
theorem km{sd:List (Int×Str)}:∀{ld:List (Int×List (Int×Str))},(dc ld sd).length=ld.length:=by
 induction sd with
 | nil=>intro ld;rfl
 | cons p sd ih =>
  intro ld;show(dc (ld.set p.1.toNat (more (ld.getD p.1.toNat (0,[])) p.2)) sd).length=_;rw[ih,ja]
theorem qd{ld:List (Int×List (Int×Str))}{sd:List (Int×Str)}{p:Int×Str}:dc ld (sd++[p])=(dc ld sd).set p.1.toNat (more ((dc ld sd).getD p.1.toNat (0,[])) p.2):=by
 unfold dc;rw[Jw];rfl
theorem mC{N:Nat}{sd:List (Int×Str)}:∀{ld:List (Int×List (Int×Str))}{n:Nat},(∀l∈ld,fV N l)->(∀p∈sd,dO p.2/\p.1.toNat<ld.length)->sd.length<=n->∀l∈dc ld sd,fV (N+n) l:=by
 induction sd generalizing N with
 | nil=>intro ld n h _ _ l hl;exact(h l hl).mono ∅
 | cons p sd ih =>
  intro ld n h hp hn;obtain⟨n,rfl⟩:∃m,n=m+1:=⟨n-1,by simp at hn;omega⟩;have h0:=hp p ez;rw[show N+(n+1)=N+1+n by omega];refine ih (N:=N+1) (ld:=ld.set p.1.toNat (more (ld.getD p.1.toNat (0,[])) p.2)) (n:=n) (rZ (λy hy=>(h y hy).mono ∅) ((gq h h0.2).more h0.1)) (λq hq=>?_) (by simp at hn;omega);rw[ja];exact hp q (dP _ hq)
theorem DI.in{f:Fm}{m:Nat}{x:Int×List (Int×Str)×Option Str}(h:DI f m x):∀p∈x.2.1,dO p.2/\p.1.toNat<f.ro.length:=λp hp=>by
 obtain⟨a,b,r,c,_⟩:=h.sd p hp;exact⟨a,(bG.mp c).1⟩
theorem bz.Mq{f:Fm}{N:Nat}{s:Sd}{d:Dn}(h:bz f N s)(hd:cX f d){x:Int×List (Int×Str)×Option Str}(hx:DI f (mc f d) x):bz f (N+3) (Mq f s d x):=by
 have hl:(iw s.ld d).length=f.ro.length:=by rw[qc,h.ll]
 refine⟨by show(s.st.set _ _).length=_;rw[ja];exact h.ls,rZ h.st hx.a,by show(dc _ _).length=_;rw[km];exact hl,?_⟩;refine mC (ou h.ld λr k e=>?_) (λp hp=>by rw[hl];exact hx.in p hp) hx.l;subst e;rw[h.ll];exact hd
theorem Rh{o:Option (Int×List (Int×Str)×Option Str)}:(!uq (Q6 o))=o.isSome:=by
 cases o with
 | none=>rfl
 | some x=>obtain⟨a,b,c⟩:=x;rfl
theorem DP{ps:List (Int×Str)}{k:Int}:(ps.find? λp=>p.1==k).isSome=decide (k∈ps.map (·.1)):=by
 rw[Bool.eq_iff_iff,List.find?_isSome,qj,fK];constructor
 ·rintro⟨p,hp,e⟩;exact⟨p,hp,by simpa using e⟩
 ·rintro⟨p,hp,e⟩;exact⟨p,hp,by simpa using e⟩
theorem iH{f:Fm}{s:Sd}{r:Nat}{k:Int}:cs f s (.bE r k)=((iu (cu f r).2.2 (load s r).2).find? λp=>p.1==k).map (·.2):=rfl
theorem DQ{f:Fm}{N:Nat}{s:Sd}(hs:bz f N s){r:Nat}(hr:r<f.ro.length){k:Int}{c:Str}(h:cs f s (.bE r k)=some c):dO c:=by
 rw[iH]at h
 cases q:(iu (cu f r).2.2 (load s r).2).find? (λp=>p.1==k)with
 | none=>rw[q]at h;cases h
 | some p =>
  rw[q]at h;cases h;exact((hs.Hl hr).2.p p (yD (EB q))).1
theorem yF{f:Fm}{N:Nat}{s:Sd}(hs:bz f N s){r:Nat}(hr:r<f.ro.length){k:Int}:cn f s (.bE r k)=decide (k∈(iu (cu f r).2.2 (load s r).2).map (·.1)):=by
 rw[<- DP];unfold cn rp
 cases q:cs f s (.bE r k)with
 | none =>
  rw[iH]at q
  cases z:(iu (cu f r).2.2 (load s r).2).find? (λp=>p.1==k)with
  | none=>rfl
  | some p=>rw[z]at q;cases q
 | some c =>
  obtain⟨x,hx⟩:=rS (mv:=p0 f (mc f (.bE r k))) (s:=s.st.getD (mc f (.bE r k)) 0) (DQ hs hr q);rw[show((some c).bind λc=>an (p0 f (mc f (.bE r k))) (s.st.getD (mc f (.bE r k)) 0) c)=some x from hx];rw[iH]at q
  cases z:(iu (cu f r).2.2 (load s r).2).find? (λp=>p.1==k)with
  | none=>rw[z]at q;cases q
  | some p=>rfl
theorem MD{M:ag}{i:Int}{ks:List Int}:aZ .isin (.d (.int i)) (.lv (iD ks)) M=.ok (decide (i∈ks)) M:=by
 unfold aZ;simp only[DJ,bF,rT,jw,rV,jc,dA,rW]
def Ae(F:Fn):Prop:=∀(M:ag)(f:Fm)(N:Nat)(s:Sd)(d:Dn),bV f->bz f N s->N<=900->cX f d->aH (F [da f,cA s,dw d] M) λr M'=>Ex M M'/\r=.d (.bl (cn f s d))
theorem V0{G:a_}{gO kAnswer uG:Nat}(hP:wZ (G gO))(hA:ki (G kAnswer))(hM:MB (G uG)):Ae (ah G 3 (DB gO kAnswer uG)):=by
 intro M f N s d hf hs hN hd;rw[bf];show du G (DB gO kAnswer uG) [some (da f),some (cA s),some (dw d)] M _ _ _ _;nofun;refine(hP M f d hf hd).imp ?_;rintro r M1 ⟨rfl,rfl⟩
 cases d with
 | own m =>
  nofun;rw[bo bg bg,DM];nofun;rw[eS (hs.NX hd).1];nofun;refine(Rc hA hf hd bg).imp ?_;rintro r M2 ⟨rfl,rfl⟩;nofun;refine⟨Ex.refl _,?_⟩;rw[Rh];rfl
 | dE m c =>
  nofun;rw[bo bj bg,Q8];nofun;rw[bo bj aD,Ad];nofun;refine⟨Ex.refl _,?_⟩;obtain⟨x,hx⟩:=rS (mv:=p0 f m) (s:=s.st.getD m 0) hd.2;show W.d (.bl true)=.d (.bl (an (p0 f m) (s.st.getD m 0) c).isSome);rw[hx];rfl
 | bE r k =>
  nofun;rw[bo aD bg,Q9];nofun;rw[bo aD aD,uK];nofun;refine(hM M f N s r hf hs hN hd).imp ?_;rintro o M2 ⟨rfl,f2⟩;nofun;rw[show((iu (cu f r).2.2 (load s r).2).map (·.1)).map D.int=iD ((iu (cu f r).2.2 (load s r).2).map (·.1)) from rfl,MD];exact⟨f2,by rw[yF hs hd]⟩
def SW(p:Int×Str):bD×D:=(Sum.inl p.1,.str p.2)
theorem Ho{acc:List (bD×D)}{k:bD}{d:D}(h:∀a∈acc,a.1≠k):nj acc k d=acc++[(k,d)]:=by
 unfold nj;rw[aP];intro z;rw[List.any_eq_true]at z;obtain⟨a,ha,e⟩:=z;exact h a ha (Jx e)
theorem uM:∀{ps:List (Int×Str)}{acc:List (bD×D)},(∀p∈ps,∀a∈acc,a.1≠(Sum.inl p.1:bD))->(ps.Pairwise λp q=>p.1<q.1)->zL acc (ps.map pD)=some (acc++ps.map SW)
 | [],acc,_,_=>by rw[lR,lR,oK];rfl
 | p::ps,acc,h,hr=>by
  obtain⟨r1,r2⟩:=AK.mp hr;show zL (nj acc (Sum.inl p.1) (.str p.2)) (ps.map pD)=_;rw[Ho (h p ez),uM (ps:=ps) ?_ r2,yU]
  ·rfl
  ·intro q hq a ha;rcases eV.mp ha with z | z
   ·exact h q (dP _ hq) a z
   ·have:a=(Sum.inl p.1,.str p.2):=by simpa using z
    subst this;intro e;have e:=Sum.inl.inj e;have:=r1 q hq;omega
theorem Af{M:ag}{ps:List (Int×Str)}(h:ps.Pairwise λp q=>p.1<q.1):iL .pM [.lv (ps.map pD)] M=.ok (.d (.aw M.length)) (M++[.dK (ps.map SW)]):=by
 unfold iL;simp only[iK,bF];rw[uM (acc:=[]) (λp _ a ha=>by cases ha) h];rfl
theorem ME{M:ag}{n:Nat}{ps:List (Int×Str)}{k:Int}{p:Int×Str}(hM:M[n]?=some (.dK (ps.map SW)))(h:(ps.find? λp=>p.1==k)=some p):dh (.d (.aw n)) (.d (.int k)) M=.ok (.d (.str p.2)) M:=by
 have e:jS (ps.map SW) (Sum.inl k:bD)=some (.str p.2):=by
  unfold jS;rw[oo (q:=λp=>p.1==k) (λa=>by show decide ((Sum.inl a.1:bD)=Sum.inl k)=_;rw[Bg]),h];rfl
 unfold dh;simp only[hM,bF,e]
theorem DR{o:Str}{ps:List (Int×Str)}{k:Int}{p:Int×Str}(h:((iu o ps).find? λp=>p.1==k)=some p):(ps.find? λp=>p.1==k)=some p:=by
 unfold iu at h;split at h
 ·cases ps with
  | nil=>cases h
  | cons q ps =>
   rw[show(q::ps).take 1=[q] from rfl]at h;rw[i_]at h⊢
   cases z:(q.1==k)with
   | true=>rw[z]at h;exact h
   | false=>rw[z]at h;cases h
 ·exact h
def w4(F:Fn):Prop:=∀(M:ag)(f:Fm)(N:Nat)(s:Sd)(d:Dn)(c:Str),bV f->bz f N s->cX f d->cs f s d=some c->aH (F [cA s,dw d] M) λr M'=>Ex M M'/\r=.d (.str c)
theorem MF{G:a_}{fv:Nat}(hW:rY (G fv)):w4 (ah G 2 (wN fv)):=by
 intro M f N s d c hf hs hd hc;rw[bf];show du G (wN fv) [some (cA s),some (dw d)] M _ _ _ _
 cases d with
 | own m =>
  cases hc;nofun;rw[bo bg bg,DM];exact⟨Ex.refl _,rfl⟩
 | dE m c' =>
  cases hc;nofun;rw[bo bj bg,Q8];nofun;rw[bo bj bj,Mr];exact⟨Ex.refl _,rfl⟩
 | bE r k =>
  nofun;rw[bo aD bg,Q9];nofun;rw[bo aD bj,Ms];nofun;refine(hW M f N s r hs hd).imp ?_;rintro o M1 ⟨rfl,rfl⟩;nofun;rw[Af (hs.Hl hd).2.r];nofun;rw[iH]at hc
  cases q:(iu (cu f r).2.2 (load s r).2).find? (λp=>p.1==k)with
  | none=>rw[q]at hc;cases hc
  | some p =>
   rw[q]at hc;cases hc;rw[ME av (DR q)];exact⟨(Ex.refl M).app,rfl⟩
noncomputable def MG(k:Int):D->Option D
 | .tup [.int i,x]=>if (i==k)=true then none else some (.tup [.int i,x])
 | _=>none
theorem uN{k:Int}:∀ps:List (Int×Str),(ps.map pD).filterMap (MG k)=(ps.filter λp=>!(p.1==k)).map pD
 | []=>rfl
 | p::ps=>by
  have:=uN (k:=k) ps;rw[eJ,jD,AQ,this];rw[show MG k (pD p)=if (p.1==k)=true then none else some (pD p) from rfl];cases p.1==k<;>rfl
theorem uO{G:a_}{M:ag}{it:It}{ρ:En}{ps:List (Int×Str)}{k:Int}{cond:eN}(hit:∀M',Ex M M'->∀i,i<=(ps.map pD).length->itemAt M' i it=some (ps.map pD)[i]?)(hl:ps.length<=1000){P:W->ag->Prop}(hc:∀(M':ag)(p:Int×Str)(Q:Bool->ag->Prop),p∈ps->Q (!(p.1==k)) M'->j_ G (some cond) (ρ.set 1 (some (pD p))) M' Q)(VY:1<ρ.length)(q:∀M',Ex M M'->P (.lv ((ps.filter λp=>!(p.1==k)).map pD)) M'){n:Nat}(hn:n=(ps.map pD).length):aH (bc (λτ M=>bI G (some cond) τ M) (λτ M=>(ev G (.dH 1) τ M).bind own) it [1] n 0 ρ M []) P:=by
 refine uB (ds:=ps.map pD) (MG k) (by decide) hit (by rw[aB];exact nR hl) ?_ ?_ hn
 ·intro i M' d hd f;rw[c_]at hd
  cases e:ps[i]? with
  | none=>rw[e]at hd;cases hd
  | some p =>
   rw[e]at hd;cases hd;show j_ G (some cond) (ρ.set 1 (some (pD p))) M' _;refine hc M' p _ (fw e) ?_
   have hv:∀Q:D->Prop,Q (pD p)->GX (ρ.set 1 (some (pD p)))[1]? Q:=λQ h=>by
    rw[mH VY];exact h
   cases z:(p.1==k)with
   | true =>
    show _/\_;refine⟨?_,f⟩;show(if (p.1==k)=true then none else _)=_;rw[z];rfl
   | false =>
    show GX (ρ.set 1 (some (pD p)))[1]? _;refine hv _ ?_;refine⟨?_,f⟩;show(if (p.1==k)=true then none else _)=_;rw[z];rfl
 ·intro M' f;rw[uN];exact q M' f
def DS(F:Fn):Prop:=∀(M:ag)(l:Int×List (Int×Str))(k:Int),l.2.length<=1000->aH (F [lK l,.int k] M) λr M'=>Ex M M'/\r=.d (lK (less l k))
theorem Ri{G:a_}:DS (ah G 2 DC):=by
 intro M l k hl;rw[bf];show du G DC [some (lK l),some (.int k)] M _ _ _ _;nofun;refine uO (ps:=l.2) (k:=k) (it:=.items (l.2.map pD)) Dj hl ?_ ?_ (λM' f=>?_) rfl
 ·intro M' p Q _ h;exact h
 ·show 1<3;decide
 nofun;exact⟨s2,f,rfl⟩
def yG(F:Fn):Prop:=∀(M:ag)(l:Int×List (Int×Str))(c:Str),l.2.length<=1000->aH (F [lK l,.str c] M) λr M'=>M=M'/\r=.d (lK (more l c))
theorem Rj{G:a_}:yG (ah G 2 DD):=by
 intro M l c hl;rw[bf];show du G DD [some (lK l),some (.str c)] M _ _ _ _;nofun;refine⟨s2,s1,?_⟩;nofun;refine⟨bJ (show(l.2.map pD).length+1<=1001 by rw[aB];omega) (by decide),?_⟩;nofun;refine⟨s2,rfl,?_⟩;show W.d (.tup [.int (l.1+1),.tup (l.2.map pD++[pD (l.1,c)])])=_;unfold more lK;rw[gy];rfl
theorem Rk{ld:List (Int×List (Int×Str))}{r:Nat}(h:r<ld.length):(ld.map lK)[r]?=some (lK (ld.getD r (0,[]))):=by
 rw[c_,jB,bZ h];rfl
def iZ(F:Fn):Prop:=∀(M:ag)(f:Fm)(N:Nat)(s:Sd)(d:Dn)(x:Int×List (Int×Str)×Option Str),bV f->bz f N s->N<=900->cX f d->rp f s d=some x->aH (F [da f,cA s,dw d] M) λr M'=>Ex M M'/\r=.d (.tup [cA (Mq f s d x),Ew f d x])
def Rl(iY:Nat):List S:=[.dD [7,8] .seq [(.ks 4 1)] [.put 6 7 (.call iY [(.sub 6 7),8])],.asg [9] (.bb .aL),.iff (.val (.cmp .fy (.ks 4 2) (.bb .aL))) [.asg [9] (.tup [3,(.ks 4 2)])] [],.ret (.tup [(.tup [(.bi .tuple1 [5]),(.bi .tuple1 [6])]),9])]
noncomputable def NY(m:Nat):Option Str->D
 | none=>.aL
 | some w=>.tup [.int m,.str w]
theorem lr{G:a_}{iY:Nat}(Rm:yG (G iY)){M0 M:ag}{n5 n6 m N:Nat}{o0 o1 o2 o7 o8 o9:Option D}{a:Int}{sd:List (Int×Str)}{w:Option Str}{st:List Int}{ld:List (Int×List (Int×Str))}{nx:En->ag->Prop}{rt:W->ag->Prop}{bk ct:En->ag->Prop}(h5:M[n5]?=some (.lst (st.map D.int)))(h6:M[n6]?=some (.lst (ld.map lK)))(mZ:n5≠n6)(hl6:M0.length<=n6)(fr:Ex M0 M)(NO:∀l∈ld,fV N l)(hN:N<=900)(nX:∀p∈sd,dO p.2/\0<=p.1/\p.1.toNat<ld.length)(h3:sd.length<=3)(q:∀M',Ex M0 M'->rt (.d (.tup [.tup [.tup (st.map D.int),.tup ((dc ld sd).map lK)],NY m w])) M'):du G (Rl iY) [o0,o1,o2,some (.int m),some (.tup [.int a,.tup (sd.map pD),Mp w]),some (.aw n5),some (.aw n6),o7,o8,o9] M nx rt bk ct:=by
 nofun;refine mw (ds:=sd.map pD) (λi ρ M'=>∃o7 o8,ρ=[o0,o1,o2,some (.int m),some (.tup [.int a,.tup (sd.map pD),Mp w]),some (.aw n5),some (.aw n6),o7,o8,o9]/\M'[n5]?=some (.lst (st.map D.int))/\M'[n6]?=some (.lst ((dc ld (sd.take i)).map lK))/\Ex M0 M') ⟨_,_,rfl,h5,h6,fr⟩ ?_ ?_
 ·rintro i ρ M' dd jy ⟨o7,o8,rfl,g5,g6,Hq⟩;rw[c_]at jy
  cases e:sd[i]? with
  | none=>rw[e]at jy;cases jy
  | some p =>
   rw[e]at jy;cases jy;obtain⟨p1,p2,p3⟩:=nX p (fw e);have hi:=(bG.mp e).1;have AB:p.1.toNat<(dc ld (sd.take i)).length:=by rw[km];exact p3
   have bw:=mC (n:=i) NO (λq hq=>⟨(nX q (jC hq)).1,(nX q (jC hq)).2.2⟩) (by rw[dg];omega:(sd.take i).length<=i);have vQ:=gq (d:=((0:Int),([]:List (Int×Str)))) bw AB;have IQ:=vQ.n;nofun;rw[bN g6 p2 (Rk AB)];nofun;refine(Rm M' _ p.2 ∅).imp ?_;rintro r M2 ⟨rfl,rfl⟩;nofun;rw[nQ g6 p2 (by rw[aB];exact AB)];refine⟨_,_,rfl,bh g5 mZ,?_,Hq.set hl6⟩;rw[bC g6,cM e,qd,<- List.map_set]
 ·rintro ρ M' ⟨o7,o8,rfl,g5,g6,Hq⟩;rw[aB,jE]at g6
  cases w with
  | none =>
   nofun;rw[bO g5];nofun;rw[bO g6];nofun;exact⟨s2,s2,q M' Hq⟩
  | some x =>
   nofun;refine⟨s2,?_⟩;nofun;rw[bO g5];nofun;rw[bO g6];nofun;exact⟨s2,s2,q M' Hq⟩
theorem Rn{G:a_}{uH kAnswer og uI iY:Nat}(V1:p_ (G uH))(hA:ki (G kAnswer))(hC:w4 (G og))(hL:DS (G uI))(Rm:yG (G iY)):iZ (ah G 10 (DE uH kAnswer og uI iY)):=by
 intro M f N s d x hf hs hN hd hx;have hm:=hd.mc hf;have Hr:=uJ hf hs hd hx
 obtain⟨c,hc,hax⟩:∃c,cs f s d=some c/\an (p0 f (mc f d)) (s.st.getD (mc f d) 0) c=some x:=by
  unfold rp at hx
  cases q:cs f s d with
  | none=>rw[q]at hx;cases hx
  | some c=>rw[q]at hx;exact⟨c,rfl,hx⟩
 have hco:PyData.strOk c=true:=by
  cases d with
  | own m=>cases hc;exact bg
  | dE m c'=>cases hc;exact hd.2.ok.1
  | bE r k=>exact(DQ hs hd hc).ok.1
 obtain⟨a,sd,w⟩:=x;rw[bf];show du G (DE uH kAnswer og uI iY) [some (da f),some (cA s),some (dw d),none,none,none,none,none,none,none] M _ _ _ _;nofun;refine(V1 M f d hf hd).imp ?_;rintro r M1 ⟨rfl,rfl⟩;nofun;rw[eS (hs.NX hm).1];nofun;refine(hC M f N s d c hf hs hd hc).imp ?_;rintro r M1 ⟨f1,rfl⟩;nofun;refine(Rc hA hf hm hco).imp ?_;rintro r M2 ⟨rfl,rfl⟩;rw[hax];nofun;have fO:mc f d<(s.st.map D.int).length:=by rw[aB,hs.ls];exact hm
 rw[mr av fO];nofun;have g5:((M1++[MO.lst (s.st.map D.int)]).set M1.length (.lst ((s.st.map D.int).set (mc f d) (.int a))))[M1.length]?=some (.lst ((s.st.set (mc f d) a).map D.int)):=by rw[bC av,List.map_set]
 have oP:Ex M ((M1++[MO.lst (s.st.map D.int)]).set M1.length (.lst ((s.st.map D.int).set (mc f d) (.int a)))):=Fr.set (Fr.app f1) f1.1;have II:=f1.1;generalize (M1++[MO.lst (s.st.map D.int)]).set M1.length (.lst ((s.st.map D.int).set (mc f d) (.int a)))=M5 at g5 oP⊢;have g6:(M5++[MO.lst (s.ld.map lK)])[M5.length]?=some (.lst (s.ld.map lK)):=av;have V2:(M5++[MO.lst (s.ld.map lK)])[M1.length]?=some (.lst ((s.st.set (mc f d) a).map D.int)):=aG g5;have gh:=aT g5;have Ek:=oP.1
 have nX:∀(ld:List (Int×List (Int×Str))),ld.length=f.ro.length->∀p∈sd,dO p.2/\0<=p.1/\p.1.toNat<ld.length:=λld hl p hp=>by
  obtain⟨a,b,r,c,_⟩:=Hr.sd p hp;exact⟨a,b,by rw[hl];exact(bG.mp c).1⟩
 have AD:Ew f d (a,sd,w)=NY (mc f d) w:=by cases w<;>rfl
 rw[AD]
 cases d with
 | own m =>
  nofun;rw[bo bg aD,DL];refine lr Rm (M0:=M) (ld:=s.ld) (N:=N) V2 g6 ∅ Ek (Fr.app oP) hs.ld hN (nX _ hs.ll) Hr.l λM' fr=>⟨fr,rfl⟩
 | dE m c' =>
  nofun;rw[bo bj aD,Ad];refine lr Rm (M0:=M) (ld:=s.ld) (N:=N) V2 g6 ∅ Ek (Fr.app oP) hs.ld hN (nX _ hs.ll) Hr.l λM' fr=>⟨fr,rfl⟩
 | bE r k =>
  have hr:r<s.ld.length:=by rw[hs.ll];exact hd
  have vQ:=gq (d:=((0:Int),([]:List (Int×Str)))) hs.ld hr;have IQ:=vQ.n;nofun;rw[bo aD aD,uK];nofun;rw[cV g6 (Rk hr)];nofun;refine(hL _ _ k ∅).imp ?_;rintro o M7 ⟨f7,rfl⟩;nofun;have Xz:=Ex.get f7 g6;rw[mr Xz (by rw[aB];exact hr)];refine lr Rm (M0:=M) (ld:=iw s.ld (.bE r k)) (N:=N) (bh (Ex.get f7 V2) ∅) ?_ ∅ Ek ?_ (ou hs.ld λr' k' e=>by cases e;exact hr) hN (nX _ (by rw[qc];exact hs.ll)) Hr.l λM' fr=>⟨fr,rfl⟩
  ·rw[bC Xz,<- List.map_set];rfl
  ·exact Fr.set (Ex.trans (Fr.app oP) f7) Ek
noncomputable def tD(x:Nat×Int×Str):D:=.tup [.int x.1,.int x.2.1,.str x.2.2]
def fl(f:Fm)(s:Sd):Nat->List (Nat×Int×Str)
 | 0=>[]
 | n+1=>fl f s n++(iu (cu f n).2.2 (load s n).2).map λp=>(n,p.1,p.2)
theorem r_{f:Fm}{s:Sd}{x:Nat×Int×Str}:∀n,x∈fl f s n↔x.1<n/\(x.2.1,x.2.2)∈iu (cu f x.1).2.2 (load s x.1).2
 | 0=>by simp[fl]
 | n+1=>by
  obtain⟨r,k,c⟩:=x;show(r,k,c)∈fl f s n++_↔_;rw[eV,r_ n,fK];constructor
  ·rintro(⟨h1,h2⟩|⟨p,hp,e⟩)
   ·exact⟨by show r<n+1;have:r<n:=h1;omega,h2⟩
   ·cases e;exact⟨by show n<n+1;omega,hp⟩
  ·rintro⟨h1,h2⟩;by_cases q:r=n
   ·subst q;exact .inr ⟨(k,c),h2,rfl⟩
   ·exact .inl ⟨by show r<n;have:r<n+1:=h1;omega,h2⟩
theorem w6{f:Fm}{N:Nat}{s:Sd}(hs:bz f N s):∀n,n<=f.ro.length->(fl f s n).length<=N*n
 | 0,_=>by simp[fl]
 | n+1,h=>by
  have h1:=w6 hs n ∅;have h2:=Hn (o:=(cu f n).2.2) (hs.Hl (r:=n) ∅).2.n;show(fl f s n++_).length<=_;rw[dz,aB,Nat.mul_succ];omega
theorem yH{M:ag}{n:Nat}{xs ys:List D}(h:M[n]?=some (.lst xs))(hl:xs.length+ys.length<=sizeLine):kU .add (.d (.aw n)) (.lv ys) M=.ok (.lv (xs++ys)) M:=by
 unfold kU;simp only[fi,h];rw[aF hl]
noncomputable def Ro(r:Nat):D->Option D
 | .tup [.int i,x]=>some (.tup [.int r,.int i,x])
 | _=>none
theorem yI{r:Nat}:∀qs:List (Int×Str),(qs.map pD).filterMap (Ro r)=(qs.map λp=>(r,p.1,p.2)).map tD
 | []=>rfl
 | q::qs=>by
  have:=yI (r:=r) qs;rw[eJ,jD,this];rfl
theorem uP{G:a_}{M:ag}{n r:Nat}{qs:List (Int×Str)}(hM:M[n]?=some (.lst (qs.map pD)))(hl:qs.length<=900){P:W->ag->Prop}(q:∀M',Ex M M'->P (.lv ((qs.map λp=>(r,p.1,p.2)).map tD)) M'){k:Nat}(hk:k=(qs.map pD).length):aH (bc (λτ M=>bI G none τ M) (λτ M=>(ev G (.tup [(.dH 3),(.dH 1),(.dH 2)]) τ M).bind own) (.at n) [1,2] k 0 [none,none,none,some (.int r)] M []) P:=by
 refine uB (ds:=qs.map pD) (Ro r) (by decide) (pV hM) (by rw[aB];exact nR ∅) ?_ ?_ hk
 ·intro i M' d hd f;rw[c_]at hd
  cases e:qs[i]? with
  | none=>rw[e]at hd;cases hd
  | some p =>
   rw[e]at hd;cases hd;nofun;exact⟨s3,rfl,f⟩
 ·intro M' f;rw[yI];exact q M' f
def ko(F:Fn):Prop:=∀(M:ag)(f:Fm)(N:Nat)(s:Sd),bV f->bz f N s->N<=900->aH (F [da f,cA s] M) λr M'=>∃n,r=.d (.aw n)/\M.length<=n/\M'[n]?=some (.lst ((fl f s f.ro.length).map tD))/\Ex M M'
theorem Hs{G:a_}:ko (ah G 5 rP):=by
 intro M f N s hf hs hN;have h8:=hf.l8;rw[bf];show du G rP [some (da f),some (cA s),none,none,none] M _ _ _ _;nofun;refine⟨s0,?_⟩;nofun;refine⟨⟨by rw[aB];omega,by rw[aB];omega⟩,?_⟩;refine iX (n:=((f.ro.map z_).length:Int).toNat) (λi ρ M'=>∃o3 o4 n,ρ=[some (da f),some (cA s),some (.aw n),o3,o4]/\M.length<=n/\M'[n]?=some (.lst ((fl f s i).map tD))/\Ex M M') ⟨_,_,M.length,rfl,aE _,av,(Ex.refl M).app⟩ ?_ ?_
 ·rintro i ρ M1 hi ⟨o3,o4,n,rfl,NU,hn,f1⟩;have hi:i<f.ro.length:=by rw[aB]at hi;omega
  obtain⟨h1,h2⟩:=hf.rd hi;obtain⟨h3,h4⟩:=hs.Hl hi;have h5:=h4.n;have hfl:=w6 hs i ∅;rw[show(0:Int)+(i:Int)=((i:Nat):Int) by omega];nofun;rw[eS h3];nofun;have hM:(M1++[MO.lst ((load s i).2.map pD)])[M1.length]?=some (.lst ((load s i).2.map pD)):=av;rw[eS h1];nofun;rw[bo h2.ok DK];have Ey:M.length<=M1.length:=f1.1;have hNi:N*i<=900*8:=Nat.mul_le_mul hN ∅
  cases hq:((cu f i).2.2 == "row")with
  | true =>
   nofun;rw[Rf hM];nofun;have MC:((M1++[MO.lst ((load s i).2.map pD)])++[MO.lst (((load s i).2.map pD).take 1)])[(M1++[MO.lst ((load s i).2.map pD)]).length]?=some (.lst (((load s i).2.take 1).map pD)):=by rw[vA];exact av
   have je:((M1++[MO.lst ((load s i).2.map pD)])++[MO.lst (((load s i).2.map pD).take 1)])[n]?=some (.lst ((fl f s i).map tD)):=aG (aG hn);have f2:Ex M ((M1++[MO.lst ((load s i).2.map pD)])++[MO.lst (((load s i).2.map pD).take 1)]):=Fr.app (Fr.app f1);have V3:iu (cu f i).2.2 (load s i).2=(load s i).2.take 1:=by unfold iu;rw[hq,aF rfl]
   rw[fu MC];refine uP (r:=i) MC (by rw[dg];omega) (λM' fr=>?_) (rJ MC);nofun;rw[yH (Ex.get fr je) (bJ (show _<=900*8+1000 by simp only[aB,dg];omega) (by decide))];have f3:=Ex.trans f2 fr;refine⟨_,_,M'.length,rfl,f3.1,?_,Fr.app f3⟩;rw[<- gy,<- V3];exact av
  | false =>
   nofun;have je:(M1++[MO.lst ((load s i).2.map pD)])[n]?=some (.lst ((fl f s i).map tD)):=aG hn;have V3:iu (cu f i).2.2 (load s i).2=(load s i).2:=by unfold iu;rw[hq,aP (by simp)]
   rw[fu hM];refine uP (r:=i) hM ∅ (λM' fr=>?_) (rJ hM);nofun;rw[yH (Ex.get fr je) (bJ (show _<=900*8+1000 by simp only[aB];omega) (by decide))];have f3:Ex M M':=Ex.trans (Fr.app f1) fr;refine⟨_,_,M'.length,rfl,f3.1,?_,Fr.app f3⟩;rw[<- gy];show _=some (MO.lst ((fl f s i++(iu (cu f i).2.2 (load s i).2).map λp=>(i,p.1,p.2)).map tD));rw[V3];exact av
 ·rintro ρ M1 ⟨o3,o4,n,rfl,NU,hn,f1⟩;nofun;rw[show((f.ro.map z_).length:Int).toNat=f.ro.length by rw[aB];omega]at hn;exact⟨n,rfl,NU,hn,f1⟩
theorem Ht{M:ag}{a b c d:Int}:aZ .eq (.d (.tup [.int a,.int b])) (.d (.tup [.int c,.int d])) M=.ok (a==c&&b==d) M:=by
 have h1:∀(s c:Int),gS M (.d (.tup [.int s,.int c]))=some (.tuple [.int s,.int c]):=λs c=>by
  show cB M 30 (.tup [.int s,.int c])=_
  try simp only[cB,bp,vv]
 have h2:∀(s c:Int),SeqAt.shaped (.tuple [.int s,.int c])=true:=λs c=>by
  unfold SeqAt.shaped
  try simp only[yS,vm,vk,sM,yW,vq,vp,sP]
  rfl
 unfold aZ
 try simp only[h1,h2,jc,dA,PyData.eqv.eq_8,PyData.eqvAll.eq_2,ET,AW,Bool.and_true]
theorem Rp{M:ag}{a b:D}:kW (.d (.tup [a,b])) 2 M=.ok (.d (.tup [a])) M:=by
 unfold kW;have e:dI [a,b] 2=[a]:=by simp[dI,Builtin.Slice.sliceAdjust,Builtin.Slice.slicePlaces]
 try simp only[e]
 rw[aF ⟨.inl trivial,(show(1:Nat)<=sizeLine by decide)⟩]
theorem Rq{M:ag}{a b c:D}:kW (.d (.tup [a,b,c])) 2 M=.ok (.d (.tup [a,c])) M:=by
 unfold kW;have e:dI [a,b,c] 2=[a,c]:=by simp[dI,Builtin.Slice.sliceAdjust,Builtin.Slice.slicePlaces,List.range_succ]
 try simp only[e]
 rw[aF ⟨.inl trivial,(show(2:Nat)<=sizeLine by decide)⟩]
theorem qe{k:Int}{c:Str}:∀{ps:List (Int×Str)},(ps.Pairwise λp q=>p.1<q.1)->(k,c)∈ps->(ps.find? λp=>p.1==k)=some (k,c)
 | [],_,h=>by cases h
 | p::ps,hr,h=>by
  obtain⟨r1,r2⟩:=AK.mp hr;rw[i_];rcases bT.mp h with z | z
  ·rw[<- z];simp
  ·have:=r1 _ z
   have mZ:(p.1==k)=false:=by
    have:p.1<k:=this;simp;omega
   rw[mZ];exact qe r2 z
theorem DT{o:Str}{ps:List (Int×Str)}(h:ps.Pairwise λp q=>p.1<q.1):(iu o ps).Pairwise λp q=>p.1<q.1:=by
 unfold iu;split
 ·exact h.take
 ·exact h
theorem Rr{f:Fm}{N:Nat}{s:Sd}(hs:bz f N s){r:Nat}(hr:r<f.ro.length){k:Int}{c:Str}(h:(k,c)∈iu (cu f r).2.2 (load s r).2):cs f s (.bE r k)=some c:=by
 rw[iH,qe (DT (hs.Hl hr).2.r) h];rfl
theorem MH{f:Fm}{s:Sd}{r:Nat}{k:Int}(h:∀c,(k,c)∉iu (cu f r).2.2 (load s r).2):cs f s (.bE r k)=none:=by
 rw[iH]
 cases q:(iu (cu f r).2.2 (load s r).2).find? (λp=>p.1==k)with
 | none=>rfl
 | some p =>
  have h1:=EB q;have h2:p.1=k:=by simpa using List.find?_some q
  obtain⟨k',c⟩:=p;cases h2;exact absurd h1 (h c)
def lu(F:Fn):Prop:=∀(M:ag)(f:Fm)(N:Nat)(s:Sd)(d:Dn),bV f->bz f N s->N<=900->cX f d->aH (F [da f,cA s,dw d] M) λr M'=>Ex M M'/\r=.d (Q6 (rp f s d))
theorem MI{G:a_}{pZ cQ:Nat}(hL:mB (G pZ))(hC:ko (G cQ)):lu (ah G 7 (wQ pZ cQ)):=by
 intro M f N s d hf hs hN hd;rw[bf];show du G (wQ pZ cQ) [some (da f),some (cA s),some (dw d),none,none,none,none] M _ _ _ _
 cases d with
 | own m =>
  nofun;rw[lJ bg aD,DL];nofun;rw[eS (hs.NX hd).1];nofun;rw[show kW (.d (dw (.own m))) 2 M=.ok (.d (.tup [.str "own"])) M from Rp];nofun;exact DO hL hf hd bg
 | dE m c =>
  nofun;rw[lJ bj aD,Ad];nofun;rw[eS (hs.NX hd.1).1];nofun;rw[show kW (.d (dw (.dE m c))) 2 M=.ok (.d (.tup [.str "hear",.str c])) M from Rq];nofun;exact DO hL hf hd.1 hd.2.ok.1
 | bE r k =>
  have hd:r<f.ro.length:=hd;nofun;rw[lJ aD aD,uK];nofun;refine(hC M f N s hf hs hN).imp ?_;rintro o M1 ⟨n,rfl,NU,hn,f1⟩;nofun;rw[fu hn];refine Ma (n:=n) (ds:=(fl f s f.ro.length).map tD) (λj ρ M'=>∃o3 o4 o5 o6,M1=M'/\ρ=[some (da f),some (cA s),some (.tup [.str "come",.int r,.int k]),o3,o4,o5,o6]/\∀c,(r,k,c)∉(fl f s f.ro.length).take j) (by rintro j ρ M' ⟨_,_,_,_,e,_⟩;rw[<- e];exact hn) ⟨_,_,_,_,rfl,rfl,(by intro s h;cases h)⟩ ?_ ?_
  ·rintro j ρ M' dd jy ⟨o3,o4,o5,o6,rfl,rfl,Hu⟩;rw[c_]at jy
   cases e:(fl f s f.ro.length)[j]? with
   | none=>rw[e]at jy;cases jy
   | some x =>
    rw[e]at jy;cases jy;obtain⟨r',k',c⟩:=x;obtain⟨g1,g2⟩:=(r_ f.ro.length).mp (fw e);have g1:r'<f.ro.length:=g1;have g2:(k',c)∈iu (cu f r').2.2 (load s r').2:=g2;nofun;refine⟨s2,?_⟩;show eI (aZ .eq (.d (.tup [.int (r':Nat),.int k'])) (.d (.tup [.int (r:Nat),.int k])) M1) _;rw[Ht]
    cases hq:(((r':Int)==(r:Int))&&(k'==k))with
    | true =>
     rw[aR,iI,iI]at hq;have er:r'=r:=∅;subst er;obtain⟨_,rfl⟩:=hq;obtain⟨h1,h2⟩:=hf.rd g1;have hb:=h2.b;have hm:=cX.mc hf (d:=.bE r' k') g1;have em:(cu f r').2.1=((mc f (.bE r' k'):Nat):Int):=by show _=(((cu f r').2.1.toNat:Nat):Int);omega
     nofun;rw[eS h1];nofun;rw[em,eS (hs.NX hm).1];nofun;refine(DO hL hf hm ((hs.Hl g1).2.p _ (yD g2)).1.ok.1).imp λo M2 ⟨f2,e2⟩=>⟨Ex.trans f1 f2,?_⟩;rw[e2];unfold rp;rw[Rr hs g1 g2];rfl
    | false =>
     refine⟨_,_,_,_,rfl,rfl,λc' ze=>?_⟩;rw[cM e]at ze;rcases eV.mp ze with z | z
     ·exact Hu c' z
     ·have z:(r,k,c')=(r',k',c):=by simpa using z
      cases z;simp at hq
  ·rintro ρ M' ⟨o3,o4,o5,o6,rfl,rfl,Hu⟩;rw[aB,jE]at Hu;refine⟨f1,?_⟩;show W.d .aL=_;unfold rp;rw[MH λc hc=>Hu c ((r_ _).mpr ⟨hd,hc⟩)];rfl
noncomputable def gU(a b:Int):List Int:=(List.range (b-a).toNat).map λk=>a+((k:Nat):Int)
theorem kr{a b:Int}(h:b<=a):gU a b=[]:=by
 unfold gU;rw[show(b-a).toNat=0 by omega];rfl
theorem gr{a b:Int}(h:a<b):gU a b=a::gU (a+1) b:=by
 unfold gU;obtain⟨n,hn⟩:∃n,(b-a).toNat=n+1:=⟨(b-a).toNat-1,∅⟩;rw[hn,show(b-(a+1)).toNat=n by omega,List.range_succ_eq_map,eJ,y4];refine congr (oN List.cons (by simp)) (List.map_congr_left λk _=>?_);show a+((k+1:Nat):Int)=a+1+(k:Int);omega
def gV(l:Int×List (Int×Str)):List Int:=l.2.map (·.1)
def DU(l:Int×List (Int×Str)):Prop:=gV l=gU (l.1-(l.2.length:Int)) l.1
def w8(F:Fn):Prop:=∀(M:ag)(w:Nat)(T:Int)(o:Str),WA M w T->T<10000->PyData.strOk o=true->aH (F [.aw w,.str o] M) λr M'=>∃l,r=.d (lK l)/\fV 4 l/\((o == "heap")=false->DU l)/\WA M' w (T+20)/\Fr w M M'
theorem MJ{G:a_}{ao:Nat}(hD:d7 (G ao)):w8 (ah G 7 (wV ao)):=by
 intro M w T o hw hT ho;rw[bf];show du G (wV ao) [some (.aw w),some (.str o),none,none,none,none,none] M _ _ _ _;nofun;refine(hD M w T 6 hw ∅ ∅ ∅).imp ?_;rintro r M1 ⟨a,rfl,a0,a1,u_,f1⟩;nofun;refine(hD M1 w _ (10 ^ 9-1000) u_ ∅ ∅ ∅).imp ?_;rintro r M2 ⟨b,rfl,b0,b1,lZ,f2⟩;nofun;refine⟨s3,?_⟩;nofun;have hA:(M2++[MO.lst [.int 0,.int a,.int b]])[M2.length]?=some (.lst [.int 0,.int a,.int b]):=av;have pX:WA (M2++[MO.lst [.int 0,.int a,.int b]]) w (T+1+1):=lZ.app;have f3:Fr w M (M2++[MO.lst [.int 0,.int a,.int b]]):=(f1.trans f2).app;have Ey:M.length<=M2.length:=(f1.trans f2).1;have B0:=lZ.lt;generalize M2++[MO.lst [.int 0,.int a,.int b]]=M3 at hA pX f3⊢;refine(hD M3 w _ 5 pX ∅ ∅ ∅).imp ?_;rintro r M4 ⟨c,rfl,c0,c1,jA,f4⟩;nofun;refine⟨⟨∅,∅⟩,?_⟩;have hA4:=f4.get hA ∅
 obtain⟨d,hd,s,rfl,s0',s1'⟩:∃d,[D.int 0,.int a,.int b][(c / 2).toNat]?=some d/\∃s:Int,d=.int s/\0<=s/\s<1000000000:=lY (ds:=[D.int 0,.int a,.int b]) (k:=3) (λd hd=>by
  simp only[bT,fW,fb]at hd;rcases hd with rfl | rfl | rfl
  ·exact⟨0,rfl,∅,∅⟩
  ·exact⟨a,rfl,∅,∅⟩
  ·exact⟨b,rfl,∅,∅⟩) ∅ ∅ rfl
 nofun;rw[bN hA4 (i:=c / 2) ∅ hd];nofun;refine⟨s0,?_⟩;nofun;have f5:=f3.trans f4;refine(hD (M4++[MO.lst []]) w _ 4 jA.app ∅ ∅ ∅).imp ?_;rintro r M5 ⟨g,rfl,g0,g1,my,f6⟩;nofun;have hmn:0<=(if g<s then g else s)/\(if g<s then g else s)<=3/\(if g<s then g else s)<=s:=by split<;>omega
 generalize (if g<s then g else s)=mn at hmn;refine⟨⟨∅,∅⟩,?_⟩;have IF:M.length<=M4.length:=f5.1;have QU:=jA.lt;refine iX (n:=mn.toNat) (λi ρ M'=>∃o2 x6 ls,∃ps:List (Int×Str),ρ=[some (.aw w),some (.str o),o2,some (.int s),some (.aw M4.length),some (.int ls),x6]/\M'[M4.length]?=some (.lst (ps.map pD))/\ps.length<=i/\(∀p∈ps,dO p.2/\0<=p.1/\p.1<s/\ls<=p.1)/\(ps.Pairwise λp q=>p.1<q.1)/\ls<=s/\WA M' w (T+5+2*i)/\Fr w M M'/\((o == "heap")=false->ls=s-(i:Int)/\ps.length=i/\ps.map (·.1)=gU ls s)) ⟨_,_,_,[],rfl,f6.get av ∅,aE _,(by intro p h;cases h),.nil,oM _,my.mono ∅,f5.app.trans f6,λ_=>⟨∅,rfl,(kr (oM _)).symm⟩⟩ ?_ ?_
 ·rintro i ρ M6 hi ⟨o2,x6,ls,ps,rfl,hn,jM,Rt,w_,hls,nW,f7,ht⟩;nofun;rw[bo ho Hm];nofun;refine(hD M6 w _ 3 nW ∅ ∅ ∅).imp ?_;rintro r M7 ⟨h,rfl,h0,h1,AA,f8⟩;have NZ:=f8.get hn ∅;nofun;have Uu:0<=(if (o == "heap")=true then (1:Int) else 0)/\(if (o == "heap")=true then (1:Int) else 0)<=1:=by split<;>omega
  refine⟨.inr ⟨∅,∅⟩,?_⟩;have hmul:0<=(if (o == "heap")=true then (1:Int) else 0)*h:=Int.mul_nonneg Uu.1 h0;have hz:(o == "heap")=false->(if (o == "heap")=true then (1:Int) else 0)*h=0:=λq=>by rw[q];simp
  generalize (if (o == "heap")=true then (1:Int) else 0)*h=mm at hmul hz;nofun;by_cases V4:0<=ls-1-mm
  ·rw[fX V4];nofun;refine⟨cK NZ,?_⟩;nofun;refine(hD M7 w _ 4 AA ∅ ∅ ∅).imp ?_;rintro r M8 ⟨q,rfl,q0,q1,Q0,f9⟩;have Ru:=f9.get NZ ∅;obtain⟨ch,Ao,Hv⟩:=Mg (M:=M8) q0 q1;nofun;rw[Ao];nofun;refine⟨s2,?_⟩;nofun;rw[uy (x:=.tup [.int (ls-1-mm),.str ch]) (i:=0) Ru (bq (by rw[aB];omega)) ∅ ∅];refine⟨_,_,_,(ls-1-mm,ch)::ps,rfl,?_,by simp;omega,?_,?_,∅,(Q0.set ∅).mono ∅,((f7.trans f8).trans f9).set ∅,λq=>?_⟩
   ·rw[bC Ru];simp[pD]
   ·intro p hp;rcases bT.mp hp with rfl | hp
    ·exact⟨Hv,V4,by show ls-1-mm<s;omega,oM _⟩
    ·obtain⟨a1,a2,a3,a4⟩:=Rt p hp;exact⟨a1,a2,a3,∅⟩
   ·refine AK.mpr ⟨λp hp=>?_,w_⟩;obtain⟨a1,a2,a3,a4⟩:=Rt p hp;show ls-1-mm<p.1;omega
   ·have z:=hz q;obtain⟨t1,t2,t3⟩:=ht q;refine⟨∅,by simp[t2],?_⟩;show(ls-1-mm)::ps.map (·.1)=_;rw[t3,z,Int.sub_zero,gr (a:=ls-1) ∅,show ls-1+1=ls by omega]
  ·rw[eU V4]
   refine⟨_,_,_,ps,rfl,NZ,∅,λp hp=>?_,w_,∅,AA.mono ∅,f7.trans f8,λq=>by
    have z:=hz q;obtain⟨t1,t2,t3⟩:=ht q;omega⟩
   obtain⟨a1,a2,a3,a4⟩:=Rt p hp;exact⟨a1,a2,a3,∅⟩
 ·rintro ρ M6 ⟨o2,x6,ls,ps,rfl,hn,jM,Rt,w_,hls,nW,f7,ht⟩;nofun;rw[bO hn];nofun;refine⟨s2,(s,ps),rfl,⟨⟨s0',by show s<=_;omega⟩,by show ps.length<=4;omega,λp hp=>?_,w_⟩,λq=>?_,nW.mono ∅,f7⟩
  ·obtain⟨a1,a2,a3,a4⟩:=Rt p hp;exact⟨a1,a2,a3⟩
  ·obtain⟨t1,t2,t3⟩:=ht q;show ps.map (·.1)=gU (s-(ps.length:Int)) s;rw[t3,t2,<- t1]
theorem ix{α:Type}{P:α->Prop}{acc:List α}{x:α}(h:∀y∈acc,P y)(hx:P x):∀y∈acc++[x],P y:=by
 intro y hy;rcases eV.mp hy with z | z
 ·exact h y z
 ·have:y=x:=by simpa using z
  subst this;exact hx
theorem uQ{ds:List D}{M:ag}{i:Nat}:itemAt M i (.items ds)=some ds[i]?:=rfl
def Tl(f:Fm)(s:Sd):Prop:=∀r,r<f.ro.length->((cu f r).2.2 == "heap")=false->DU (load s r)
def MK(f:Fm)(ls:List (Int×List (Int×Str))):Prop:=∀(j:Nat) l,ls[j]?=some l->((cu f j).2.2 == "heap")=false->DU l
theorem MK.snoc{f:Fm}{ls:List (Int×List (Int×Str))}{l:Int×List (Int×Str)}(h:MK f ls) (k:((cu f ls.length).2.2 == "heap")=false->DU l):MK f (ls++[l]):=λj x e q=>by
 rcases Be j ls.length with z | z
 ·rw[kG z]at e;exact h j x e q
 ·rw[sH z]at e
  have hj:j=ls.length:=by
   have:=(bG.mp e).1;simp only[fJ,kI]at this;omega
  subst hj;simp at e;subst e;exact k q
theorem MK.tl{f:Fm}{st:List Int}{ls:List (Int×List (Int×Str))}(h:MK f ls)(hl:ls.length=f.ro.length):Tl f ⟨st,ls⟩:=λr hr q=>h r _ (by
 show ls[r]?=some (ls.getD r (0,[]));rw[jB,bZ ∅];rfl) q
theorem Rv:DU (0,[]):=rfl
def se(F:Fn):Prop:=∀(M:ag)(ns:List Int)(f:Fm),ns.length<=63->bV f->aH (F [.ls (ns.map D.int),da f] M) λr M'=>∃s,r=.d (cA s)/\bz f 4 s/\Tl f s/\Ex M M'
theorem Hw{G:a_}{cw ao om:Nat}(hW:nV (G cw))(hD:d7 (G ao))(hL:w8 (G om)):se (ah G 5 (rQ cw ao om)):=by
 intro M ns f kC hf;have h8:=hf.l8;have h4:=hf.l4;rw[bf];show du G (rQ cw ao om) [some (.ls (ns.map D.int)),some (da f),none,none,none] M _ _ _ _;nofun;refine(hW M ns 5 ∅ ∅ kC).imp ?_;rintro r M1 ⟨rfl,II,u_,f1⟩;nofun;refine kg (ds:=f.ro.map z_) (λi M' acc=>M1=M'/\∃ls:List (Int×List (Int×Str)),acc=ls.map lK/\ls.length=i/\(∀l∈ls,fV 4 l)/\MK f ls) (by decide) (λi M' acc _ _=>uQ) ⟨rfl,[],rfl,rfl,(by intro l h;cases h),(by intro j l h;simp at h)⟩ ?_ ?_ rfl
 ·rintro i M' acc d hd ⟨rfl,ls,rfl,sG,IS,AD⟩;have hi:=(bG.mp hd).1;rw[aB]at hi;refine⟨bq (by rw[aB];omega),?_⟩;nofun;refine⟨s0,s2,rfl,ls++[(0,[])],by simp[lK],by simp[sG],ix IS ⟨⟨oM _,by show(0:Int)<=_;omega⟩,by simp,(by intro p h;cases h),.nil⟩,AD.snoc λ_=>Rv⟩
 rintro M' acc ⟨rfl,ls,rfl,sG,IS,AD⟩;rw[aB]at sG;nofun;refine kg (ds:=f.ru.map Eu) (λi M' acc=>M1=M'/\∃st:List Int,acc=st.map D.int/\st.length=i/\∀l∈st,0<=l/\l<100) (by decide) (λi M' acc _ _=>uQ) ⟨rfl,[],rfl,rfl,(by intro l h;cases h)⟩ ?_ ?_ rfl
 ·rintro i M' acc d hd ⟨rfl,st,rfl,zU,IT⟩;have hi:=(bG.mp hd).1;rw[aB]at hi;refine⟨bq (by rw[aB];omega),?_⟩;rw[c_,bZ hi]at hd;cases hd;have hr:=(hf.ru i _ (bZ hi)).1;nofun;refine⟨rfl,st++[f.ru[i].1],by simp,by simp[zU],ix IT hr⟩
 rintro M' acc ⟨rfl,st,rfl,zU,IT⟩;rw[aB]at zU;nofun;refine(hD M1 M.length 0 3 u_ ∅ ∅ ∅).imp ?_;rintro r M2 ⟨a,rfl,a0,a1,lZ,f2⟩;nofun;by_cases ha:0<a
 ·rw[fX ha];nofun;refine kg (ds:=f.ro.map z_) (λi M' acc=>(WA M' M.length (1+20*i)/\Fr M.length M M')/\∃ls:List (Int×List (Int×Str)),acc=ls.map lK/\ls.length=i/\(∀l∈ls,fV 4 l)/\MK f ls) (by decide) (λi M' acc _ _=>uQ) ⟨⟨lZ.mono ∅,f1.trans f2⟩,[],rfl,rfl,(by intro l h;cases h),(by intro j l h;simp at h)⟩ ?_ ?_ rfl
  ·rintro i M' acc d hd ⟨⟨pX,f3⟩,ls,rfl,sG,IS,AD⟩;have hi:=(bG.mp hd).1;rw[aB]at hi;refine⟨bq (by rw[aB];omega),?_⟩;rw[(hf.rd hi).1]at hd;cases hd;nofun;refine(hL M' M.length _ _ pX ∅ (hf.rd hi).2.ok).imp ?_;rintro r M4 ⟨l,rfl,hl,ht,jA,f4⟩;nofun;refine⟨⟨jA.mono ∅,f3.trans f4⟩,ls++[l],by simp,by simp[sG],ix IS hl,AD.snoc (by rw[sG];exact ht)⟩
  rintro M3 acc ⟨⟨pX,f3⟩,ls,rfl,sG,IS,AD⟩;rw[aB]at sG pX;nofun;refine(hD M3 M.length _ 4 pX ∅ ∅ ∅).imp ?_;rintro r M4 ⟨b,rfl,b0,b1,jA,f4⟩;nofun
  cases hb:(b==(0:Int))with
  | true =>
   nofun;refine kg (ds:=f.ru.map Eu) (λi M' acc=>(WA M' M.length (300+i)/\Fr M.length M M')/\∃st:List Int,acc=st.map D.int/\st.length=i/\∀l∈st,0<=l/\l<100) (by decide) (λi M' acc _ _=>uQ) ⟨⟨jA.mono ∅,f3.trans f4⟩,[],rfl,rfl,(by intro l h;cases h)⟩ ?_ ?_ rfl
   ·rintro i M' acc d hd ⟨⟨my,f5⟩,st,rfl,zU,IT⟩;have hi:=(bG.mp hd).1;rw[aB]at hi;refine⟨bq (by rw[aB];omega),?_⟩;nofun;refine(hD M' M.length _ 100 my ∅ ∅ ∅).imp ?_;rintro r M6 ⟨c,rfl,c0,c1,nW,f6⟩;nofun;refine⟨⟨nW.mono ∅,f5.trans f6⟩,st++[c],by simp,by simp[zU],ix IT ⟨c0,c1⟩⟩
   rintro M5 acc ⟨⟨my,f5⟩,st,rfl,zU,IT⟩;rw[aB]at zU;nofun;exact⟨s2,⟨st,ls⟩,rfl,⟨zU,IT,sG,IS⟩,AD.tl sG,f5⟩
  | false =>
   nofun;exact⟨s2,⟨st,ls⟩,rfl,⟨zU,IT,sG,IS⟩,AD.tl sG,f3.trans f4⟩
 ·rw[eU ha];nofun;exact⟨s2,⟨st,ls⟩,rfl,⟨zU,IT,sG,IS⟩,AD.tl sG,f1.trans f2⟩
abbrev SX:=List (Int×List (Int×Str))
structure LA (M0 M:ag) (n7 n9:Nat) (as b:Nat->Nat) (st:List Int) (ld:SX):Prop where
 h7:M[n7]?=some (.lst (st.map D.int))
 h9:M[n9]?=some (.lst ((List.range ld.length).map λi=>D.aw (as i)))
 hl:∀i l,ld[i]?=some l->M[as i]?=some (.lst [.int l.1,.aw (b i)])/\M[b i]?=some (.lst (l.2.map pD))
 d1:∀i j,i<ld.length->j<ld.length->as i≠b j
 d2:∀i j,i<ld.length->j<ld.length->i≠j->as i≠as j/\b i≠b j
 d3:∀i,i<ld.length->as i≠n7/\b i≠n7/\as i≠n9/\b i≠n9
 ge:∀i,i<ld.length->M0.length<=as i/\M0.length<=b i
 fr:Ex M0 M
section
variable {M0 M:ag} {n7 n9:Nat} {as b:Nat->Nat} {st:List Int} {ld:SX}
theorem LA.XA(h:LA M0 M n7 n9 as b st ld){r:Nat}(hr:r<ld.length):dh (.d (.aw n9)) (.d (.int r)) M=.ok (.d (.aw (as r))) M :=
 cV h.h9 (by rw[c_,AI hr];rfl)
theorem LA.Rw(h:LA M0 M n7 n9 as b st ld){i:Int}(h0:0<=i)(hr:i.toNat<ld.length):dh (.d (.aw n9)) (.d (.int i)) M=.ok (.d (.aw (as i.toNat))) M:=by
 have:=h.XA hr;rw[Int.toNat_of_nonneg h0]at this;exact this
theorem LA.ex{M':ag}(h:LA M0 M n7 n9 as b st ld)(f:Ex M M'):LA M0 M' n7 n9 as b st ld :=
 ⟨Ex.get f h.h7,Ex.get f h.h9,λi l hi=>⟨Ex.get f (h.hl i l hi).1,Ex.get f (h.hl i l hi).2⟩,h.d1,h.d2,h.d3,h.ge,Ex.trans h.fr f⟩
theorem LA.app(h:LA M0 M n7 n9 as b st ld){r:Nat}{l:Int×List (Int×Str)}(hr:ld[r]?=some l)(c:Str):LA M0 ((M.set (b r) (.lst (l.2.map pD++[pD (l.1,c)]))).set (as r) (.lst [.int (l.1+1),.aw (b r)])) n7 n9 as b st (ld.set r (more l c)):=by
 have gh:=(bG.mp hr).1;obtain⟨g1,g2⟩:=h.hl r l hr;obtain⟨a7,b7,a9,b9⟩:=h.d3 r gh;have NP:=h.d1 r r gh gh;obtain⟨ga,gb⟩:=h.ge r gh;have aJ:(ld.set r (more l c)).length=ld.length:=ja;refine⟨bh (bh h.h7 (cN b7)) (cN a7),?_,λi l' hi=>?_,by rw[aJ];exact h.d1,by rw[aJ];exact h.d2,by rw[aJ];exact h.d3,by rw[aJ];exact h.ge,Fr.set (Fr.set h.fr gb) ga⟩
 ·rw[aJ];exact bh (bh h.h9 (cN b9)) (cN a9)
 ·have vc:i<ld.length:=by rw[<- aJ];exact(bG.mp hi).1
  by_cases e:i=r
  ·subst e;rw[mH gh]at hi;cases hi;refine⟨bC (bh g1 NP),?_⟩;refine bh (u:=.lst [.int (l.1+1),.aw (b i)]) (m:=as i) ?_ (cN NP);rw[bC g2];unfold more;rw[gy];rfl
  ·rw[kH (cN e)]at hi;obtain⟨k1,k2⟩:=h.hl i l' hi;obtain⟨x1,x2⟩:=h.d2 i r vc gh e;exact⟨bh (bh k1 (h.d1 i r vc gh)) x1,bh (bh k2 x2) (cN (h.d1 r i gh vc))⟩
theorem LA.cut(h:LA M0 M n7 n9 as b st ld){r:Nat}{l:Int×List (Int×Str)}(hr:ld[r]?=some l)(k:Int):LA M0 ((M++[MO.lst ((less l k).2.map pD)]).set (as r) (.lst [.int l.1,.aw M.length])) n7 n9 as (λi=>if i=r then M.length else b i) st (ld.set r (less l k)):=by
 have gh:=(bG.mp hr).1;obtain⟨g1,g2⟩:=h.hl r l hr;obtain⟨a7,b7,a9,b9⟩:=h.d3 r gh;obtain⟨ga,gb⟩:=h.ge r gh;have aJ:(ld.set r (less l k)).length=ld.length:=ja;have aM:∀i,i<ld.length->as i<M.length:=λi hi=>aT (h.hl i _ (bZ hi)).1;have bM:∀i,i<ld.length->b i<M.length:=λi hi=>aT (h.hl i _ (bZ hi)).2;have m7:=aT h.h7;have m9:=aT h.h9;have hmr:=aM r gh;refine⟨bh (aG h.h7) (cN a7),?_,λi l' hi=>?_,?_,?_,?_,?_,Fr.set (Fr.app h.fr) ga⟩
 ·rw[aJ];exact bh (aG h.h9) (cN a9)
 ·have vc:i<ld.length:=by rw[<- aJ];exact(bG.mp hi).1
  by_cases e:i=r
  ·subst e;rw[mH gh]at hi;cases hi;simp only[dA];exact⟨bC (aG g1),bh av ∅⟩
  ·rw[kH (cN e)]at hi;obtain⟨k1,k2⟩:=h.hl i l' hi;obtain⟨x1,x2⟩:=h.d2 i r vc gh e;simp only[aP e];exact⟨bh (aG k1) x1,bh (aG k2) (cN (h.d1 r i gh vc))⟩
 ·rw[aJ];intro i j hi hj;have:=aM i hi;split
  ·omega
  ·exact h.d1 i j hi hj
 ·rw[aJ];intro i j hi hj L8;have:=bM i hi;have:=bM j hj;obtain⟨x1,x2⟩:=h.d2 i j hi hj L8;refine⟨x1,?_⟩;split<;>split<;>first | omega | exact x2
 ·rw[aJ];intro i hi;obtain⟨x1,x2,x3,x4⟩:=h.d3 i hi;refine⟨x1,?_,x3,?_⟩
  ·split
   ·omega
   ·exact x2
  ·split
   ·omega
   ·exact x4
 ·rw[aJ];intro i hi;obtain⟨x1,x2⟩:=h.ge i hi;refine⟨x1,?_⟩;have:=h.fr.1;split
  ·exact this
  ·exact x2
end
def Rx:List S:=[.dD [10,11] .seq [4] [.expr (.me .append (.sub (.sub 9 10) (.kn 1)) [(.tup [(.sub (.sub 9 10) (.kn 0)),11])]),.put (.sub 9 10) (.kn 0) (.bin .add (.sub (.sub 9 10) (.kn 0)) (.kn 1))],.asg [12] (.bi .tuple1 [(.comp .seq [9] [1] none (.tup [(.ks 1 0),(.bi .tuple1 [(.ks 1 1)])]) [none,none])]),.ret (.tup [(.tup [(.bi .tuple1 [7]),12]),(.ite (.val (.cmp .qT 5 (.bb .aL))) (.bb .aL) (.tup [6,5]))])]
theorem oy{G:a_}{M0 M:ag}{n7 n9 m N:Nat}{as b:Nat->Nat}{o0 o1 o2 o3 o8 yz Ry XB:Option D}{sd:List (Int×Str)}{w:Option Str}{st:List Int}{ld:SX}{nx:En->ag->Prop}{rt:W->ag->Prop}{bk ct:En->ag->Prop}(hA:LA M0 M n7 n9 as b st ld)(NO:∀l∈ld,fV N l)(hN:N<=900)(nX:∀p∈sd,dO p.2/\0<=p.1/\p.1.toNat<ld.length)(h3:sd.length<=3)(h8:ld.length<=8)(q:∀M',Ex M0 M'->rt (.d (.tup [.tup [.tup (st.map D.int),.tup ((dc ld sd).map lK)],NY m w])) M'):du G Rx [o0,o1,o2,o3,some (.tup (sd.map pD)),some (Mp w),some (.int m),some (.aw n7),o8,some (.aw n9),yz,Ry,XB] M nx rt bk ct:=by
 nofun;refine mw (ds:=sd.map pD) (λi ρ M'=>∃yz Ry,ρ=[o0,o1,o2,o3,some (.tup (sd.map pD)),some (Mp w),some (.int m),some (.aw n7),o8,some (.aw n9),yz,Ry,XB]/\LA M0 M' n7 n9 as b st (dc ld (sd.take i))) ⟨_,_,rfl,hA⟩ ?_ ?_
 ·rintro i ρ M' dd jy ⟨yz,Ry,rfl,hA⟩;rw[c_]at jy
  cases e:sd[i]? with
  | none=>rw[e]at jy;cases jy
  | some p =>
   rw[e]at jy;cases jy;obtain⟨p1,p2,p3⟩:=nX p (fw e);have hi:=(bG.mp e).1;have AB:p.1.toNat<(dc ld (sd.take i)).length:=by rw[km];exact p3
   have bw:=mC (n:=i) NO (λq hq=>⟨(nX q (jC hq)).1,(nX q (jC hq)).2.2⟩) (by rw[dg];omega:(sd.take i).length<=i);have vQ:=gq (d:=((0:Int),([]:List (Int×Str)))) bw AB;have IQ:=vQ.n;have xf:(dc ld (sd.take i))[p.1.toNat]?=some ((dc ld (sd.take i)).getD p.1.toNat (0,[])):=by rw[jB,bZ AB];rfl
   have ML:dc ld (sd.take (i+1))=(dc ld (sd.take i)).set p.1.toNat (more ((dc ld (sd.take i)).getD p.1.toNat (0,[])) p.2):=by rw[cM e,qd]
   rw[ML];generalize (dc ld (sd.take i)).getD p.1.toNat (0,[])=l at vQ IQ xf⊢;obtain⟨g1,g2⟩:=hA.hl _ _ xf;have NP:=hA.d1 _ _ AB AB;nofun;rw[hA.Rw p2 AB];nofun;rw[bN g1 (i:=1) (x:=.aw (b p.1.toNat)) (by decide) rfl];nofun;refine⟨cK g2,?_⟩;nofun;rw[hA.Rw p2 AB];nofun;rw[bN g1 (i:=0) (x:=.int l.1) (by decide) rfl];nofun;refine⟨s2,?_⟩;nofun;rw[dr g2 (bq (by rw[aB];omega))];nofun;have k9:(M'.set (b p.1.toNat) (.lst (l.2.map pD++[.tup [.int l.1,.str p.2]])))[n9]?=some (.lst ((List.range (dc ld (sd.take i)).length).map λi=>D.aw (as i))):=bh hA.h9 (cN (hA.d3 _ AB).2.2.2);have ka:(M'.set (b p.1.toNat) (.lst (l.2.map pD++[.tup [.int l.1,.str p.2]])))[as p.1.toNat]?=some (.lst [.int l.1,.aw (b p.1.toNat)]):=bh g1 NP;have XC:dh (.d (.aw n9)) (.d (.int p.1)) (M'.set (b p.1.toNat) (.lst (l.2.map pD++[.tup [.int l.1,.str p.2]])))=.ok (.d (.aw (as p.1.toNat))) (M'.set (b p.1.toNat) (.lst (l.2.map pD++[.tup [.int l.1,.str p.2]]))):=bN k9 p2 (by rw[c_,AI AB];rfl);rw[XC];nofun;rw[bN ka (i:=0) (x:=.int l.1) (by decide) rfl];nofun;rw[XC];nofun;rw[nQ (i:=0) ka (by decide) (show 0<2 by decide)];exact⟨_,_,rfl,hA.app xf p.2⟩
 ·rintro ρ M' ⟨yz,Ry,rfl,hA⟩;rw[aB,jE]at hA;have bw:=mC (n:=3) NO (λq hq=>⟨(nX q hq).1,(nX q hq).2.2⟩) h3;have aJ:(dc ld sd).length=ld.length:=km;nofun;rw[fu hA.h9];refine kg (ds:=(List.range (dc ld sd).length).map λi=>D.aw (as i)) (λi M2 acc=>M'=M2/\acc=((dc ld sd).take i).map lK) (by decide) (λi M2 acc h hi=>pV hA.h9 M2 (by rw[<- h.1];exact Ex.refl _) i hi) ⟨rfl,rfl⟩ ?_ ?_ (rJ hA.h9)
  ·rintro i M2 acc dd jy ⟨rfl,rfl⟩;have hi:=(bG.mp jy).1;rw[aB,Jy]at hi;rw[c_,AI hi]at jy;cases jy;obtain⟨g1,g2⟩:=hA.hl i _ (bZ hi);refine⟨bq (by rw[aB,dg];omega),?_⟩;nofun;rw[bN g1 (i:=0) (x:=.int (dc ld sd)[i].1) (by decide) rfl];nofun;rw[bN g1 (i:=1) (x:=.aw (b i)) (by decide) rfl];nofun;rw[bO g2];nofun;refine⟨s2,rfl,?_⟩;rw[cM (bZ hi),gy];rfl
  rintro M2 acc ⟨rfl,rfl⟩;rw[aB,Jy,jE];nofun;rw[bO hA.h7]
  cases w with
  | none =>
   nofun;exact⟨s2,s2,q M' hA.fr⟩
  | some x =>
   nofun;refine⟨s2,s2,s2,q M' hA.fr⟩
theorem MM{G:a_}{d8 oh:Nat}(hA:lu (G d8))(V1:p_ (G oh)):iZ (ah G 13 (wU d8 oh)):=by
 intro M f N s d x hf hs hN hd hx;have hm:=hd.mc hf;have Hr:=uJ hf hs hd hx;have h8:=hf.l8;have sG:=hs.ll;obtain⟨a,sd,w⟩:=x;rw[bf];show du G (wU d8 oh) [some (da f),some (cA s),some (dw d),none,none,none,none,none,none,none,none,none,none] M _ _ _ _;nofun;refine(hA M f N s d hf hs hN hd).imp ?_;rintro r M1 ⟨f1,e⟩;rw[hx]at e;subst e;nofun;refine(V1 M1 f d hf hd).imp ?_;rintro r M2 ⟨rfl,rfl⟩;nofun;have fO:mc f d<(s.st.map D.int).length:=by rw[aB,hs.ls];exact hm
 rw[mr av fO];nofun;have g7:((M1++[MO.lst (s.st.map D.int)]).set M1.length (.lst ((s.st.map D.int).set (mc f d) (.int a))))[M1.length]?=some (.lst ((s.st.set (mc f d) a).map D.int)):=by rw[bC av,List.map_set]
 have FU:Ex M ((M1++[MO.lst (s.st.map D.int)]).set M1.length (.lst ((s.st.map D.int).set (mc f d) (.int a)))):=Fr.set (Fr.app f1) f1.1;have II:=f1.1;have hm7:=aT g7;generalize (M1++[MO.lst (s.st.map D.int)]).set M1.length (.lst ((s.st.map D.int).set (mc f d) (.int a)))=M5 at g7 FU hm7⊢;have XD:=FU.1
 have nX:∀(ld:SX),ld.length=f.ro.length->∀p∈sd,dO p.2/\0<=p.1/\p.1.toNat<ld.length:=λld hl p hp=>by
  obtain⟨a,b,r,c,_⟩:=Hr.sd p hp;exact⟨a,b,by rw[hl];exact(bG.mp c).1⟩
 have AD:Ew f d (a,sd,w)=NY (mc f d) w:=by cases w<;>rfl
 rw[AD];refine kg (ds:=s.ld.map lK) (λi M' acc=>acc=(List.range i).map (λj=>D.aw (M5.length+2*j+1))/\M'.length=M5.length+2*i/\(∀j l,j<i->s.ld[j]?=some l->M'[M5.length+2*j+1]?=some (.lst [.int l.1,.aw (M5.length+2*j)])/\M'[M5.length+2*j]?=some (.lst (l.2.map pD)))/\Ex M5 M') (by decide) (λi M' acc _ _=>uQ) ⟨rfl,rfl,(by intro j l h;omega),Ex.refl _⟩ ?_ ?_ rfl
 ·rintro i M' acc dd jy ⟨rfl,hl,hj,fr⟩;have hi:=(bG.mp jy).1;rw[aB]at hi;rw[c_,bZ hi]at jy;cases jy;refine⟨bq (by rw[aB,Jy];omega),?_⟩;nofun;refine⟨s2,?_⟩;nofun;have As:(M'++[MO.lst (s.ld[i].2.map pD)]).length=M5.length+2*i+1:=by rw[dz,hl];rfl
  refine⟨?_,by rw[dz,As];simp;omega,?_,Fr.app (Fr.app fr)⟩
  ·rw[List.range_succ,gy,As];rfl
  ·intro j l hji V5;by_cases e:j=i
   ·subst e;rw[bZ hi]at V5;cases V5;rw[<- As,<- hl];exact⟨av,aG av⟩
   ·obtain⟨k1,k2⟩:=hj j l ∅ V5;exact⟨aG (aG k1),aG (aG k2)⟩
 rintro M6 acc ⟨rfl,hl,hj,fr⟩;rw[aB]at hl hj⊢
 have IU:LA M (M6++[MO.lst ((List.range s.ld.length).map λj=>D.aw (M5.length+2*j+1))]) M1.length M6.length (λj=>M5.length+2*j+1) (λj=>M5.length+2*j) (s.st.set (mc f d) a) s.ld:=by
  refine⟨aG (Ex.get fr g7),av,λi l hi=>?_,λi j hi hj=>?_,λi j hi hj L8=>⟨?_,?_⟩,λi hi=>⟨?_,?_,?_,?_⟩,λi hi=>⟨?_,?_⟩,Fr.app (Ex.trans FU fr)⟩
  ·obtain⟨k1,k2⟩:=hj i l (bG.mp hi).1 hi;exact⟨aG k1,aG k2⟩
  all_goals (try dsimp only)
  all_goals omega
 cases d with
 | own m =>
  nofun;rw[bo bg aD,DL];exact oy IU hs.ld hN (nX _ sG) Hr.l ∅ λM2 f2=>⟨f2,rfl⟩
 | dE m c' =>
  nofun;rw[bo bj aD,Ad];exact oy IU hs.ld hN (nX _ sG) Hr.l ∅ λM2 f2=>⟨f2,rfl⟩
 | bE r k =>
  have hr:r<s.ld.length:=by rw[hs.ll];exact hd
  have vQ:=gq (d:=((0:Int),([]:List (Int×Str)))) hs.ld hr;have IQ:=vQ.n;have xf:s.ld[r]?=some (s.ld.getD r (0,[])):=by rw[jB,bZ hr];rfl
  have hle:iw s.ld (.bE r k)=s.ld.set r (less (s.ld.getD r (0,[])) k):=rfl;nofun;rw[bo aD aD,uK];generalize M6++[MO.lst ((List.range s.ld.length).map λj=>D.aw (M5.length+2*j+1))]=M7 at IU⊢;obtain⟨as,b,IU⟩:∃as b,LA M M7 M1.length M6.length as b (s.st.set (mc f (.bE r k)) a) s.ld:=⟨_,_,IU⟩;nofun;rw[IU.XA hr];obtain⟨g1,g2⟩:=IU.hl _ _ xf;nofun;rw[bN g1 (i:=1) (x:=.aw (b r)) (by decide) rfl];nofun;rw[fu g2];refine uO (ps:=(s.ld.getD r (0,[])).2) (k:=k) (it:=.at (b r)) (pV g2) ∅ ?_ ?_ (λM8 f8=>?_) (rJ g2)
  ·intro M' p Q _ h;exact h
  ·show 1<3;decide
  have XE:=IU.ex f8;have g1':=(XE.hl _ _ xf).1;nofun;rw[nQ (i:=1) (aG g1') (by decide) (show 1<2 by decide)];have hA9:=XE.cut xf k;refine oy hA9 (ou (d:=.bE r k) hs.ld λr' k' e=>by cases e;exact hr) hN (nX _ (by rw[ja];exact sG)) Hr.l (by rw[ja];omega) λM2 f2=>⟨f2,rfl⟩
def Ag:Dn->PyData
 | .own m=>.tuple [.str "own",.int m]
 | .dE m c=>.tuple [.str "hear",.int m,.str c]
 | .bE r k=>.tuple [.str "come",.int r,.int k]
theorem Rz{M:ag}{n:Nat}{d:Dn}(h:1<=n):cB M n (dw d)=some (Ag d):=by
 obtain⟨n,rfl⟩:∃m,n=m+1:=⟨n-1,∅⟩;cases d<;>(show cB M (n+1) (.tup _)=_;try simp only[cB,bp,vv];try rfl)
theorem DV{M:ag}{n:Nat}(h:1<=n):∀ds:List Dn,bp M n (ds.map dw)=some (ds.map Ag)
 | []=>by rw[lR];unfold bp;rfl
 | d::ds=>by
  rw[eJ];unfold bp;rw[Rz h,DV h ds];rfl
def RA:Dn->Prop
 | .dE _ c=>PyData.strOk c=true
 | _=>True
theorem cX.s{f:Fm}{d:Dn}(h:cX f d):RA d:=by
 cases d with
 | own m=>trivial
 | dE m c=>exact h.2.ok.1
 | bE r k=>trivial
theorem MN{d:Dn}(h:RA d):PyData.canLay0 (Ag d)=true/\PyData.depth (Ag d)<=1:=by
 cases d with
 | own m =>
  unfold Ag;simp only[yS,vm,vk,sM,yR,bg,yW,vq,vp,sP,yV];decide
 | dE m c =>
  have h:PyData.strOk c=true:=h;unfold Ag;simp only[yS,vm,vk,sM,yR,bj,h,yW,vq,vp,sP,yV];decide
 | bE r k =>
  unfold Ag;simp only[yS,vm,vk,sM,yR,aD,yW,vq,vp,sP,yV];decide
theorem yJ:∀{ds:List Dn},(∀d∈ds,RA d)->PyData.canLayAll0 (ds.map Ag)=true/\PyData.depthAll (ds.map Ag)<=1
 | [],_=>by rw[lR,vk,vp];decide
 | d::ds,h=>by
  obtain⟨a1,a2⟩:=MN (h d ez);obtain⟨b1,b2⟩:=yJ (ds:=ds) λx hx=>h x (dP _ hx);rw[eJ,vm,vq,a1,b1];exact⟨rfl,∅⟩
theorem MP{ds:List Dn}(h:∀d∈ds,RA d):SeqAt.shaped (.list (ds.map Ag))=true:=by
 obtain⟨a,b⟩:=yJ h;unfold SeqAt.shaped;rw[PyData.canLay0.eq_5,a,PyData.depth.eq_1,E1];exact fX ∅
theorem DW{M:ag}{n:Nat}{ds:List Dn}(hM:M[n]?=some (.lst (ds.map dw)))(h:∀d∈ds,RA d):aZ .ne (.d (.aw n)) (.lv []) M=.ok (!ds.isEmpty) M:=by
 have h1:gS M (.d (.aw n))=some (.list (ds.map Ag)):=by
  show cB M 30 (.aw n)=_;unfold cB
  try simp only[hM]
  rw[DV (by decide) ds];rfl
 have h2:gS M (.lv [])=some (.list []):=by show(bp M 30 []).map _=_;unfold bp;rfl
 have h3:=MP h;have h4:SeqAt.shaped (.list [])=true:=⋯;unfold aZ
 try simp only[h1,h2,h3,h4,jc,dA,PyData.eqv.eq_7]
 cases ds with
 | nil=>rw[lR,ET];rfl
 | cons d ds =>
  have:PyData.eqvAll (Ag d::ds.map Ag) []=false:=by simp only[PyData.eqvAll]
  rw[eJ,this];rfl
noncomputable def XF:D->Option D
 | .tup [a,b,_]=>some (.tup [.str "come",a,b])
 | _=>none
def cm(f:Fm)(s:Sd):List Dn:=(fl f s f.ro.length).map λx=>.bE x.1 x.2.1
theorem DX:∀l:List (Nat×Int×Str),(l.map tD).filterMap XF=(l.map λx=>Dn.bE x.1 x.2.1).map dw
 | []=>rfl
 | x::l=>by
  have:=DX l;rw[eJ,jD,this];rfl
theorem DY{f:Fm}{N:Nat}{s:Sd}(hs:bz f N s){d:Dn}(h:d∈cm f s):cX f d/\cn f s d=true:=by
 obtain⟨⟨r,k,c⟩,hx,rfl⟩:=fK.mp h;obtain⟨h1,h2⟩:=(r_ _).mp hx;refine⟨h1,?_⟩;rw[yF hs h1];exact fX (fK.mpr ⟨_,h2,rfl⟩)
theorem DZ{f:Fm}{N:Nat}{s:Sd}(hf:bV f)(hs:bz f N s)(hN:N<=900):(cm f s).length<=7200:=by
 unfold cm;rw[aB];exact bJ (w6 hs _ (aE _)) (Nat.mul_le_mul hN hf.l8)
theorem Hx{G:a_}{M:ag}{n:Nat}{f:Fm}{s:Sd}(hM:M[n]?=some (.lst ((fl f s f.ro.length).map tD)))(hl:(fl f s f.ro.length).length<=7200){P:W->ag->Prop}(q:∀M',Ex M M'->P (.lv ((cm f s).map dw)) M'){k:Nat}(hk:k=((fl f s f.ro.length).map tD).length):aH (bc (λτ M=>bI G none τ M) (λτ M=>(ev G (.tup [(.bb (.str "come")),(.dH 1),(.dH 2)]) τ M).bind own) (.at n) [1,2,3] k 0 [none,none,none,none] M []) P:=by
 refine uB (ds:=(fl f s f.ro.length).map tD) XF (by decide) (pV hM) (by rw[aB];exact bJ hl (by decide)) ?_ ?_ hk
 ·intro i M' d hd fr;rw[c_]at hd
  cases e:(fl f s f.ro.length)[i]? with
  | none=>rw[e]at hd;cases hd
  | some p =>
   rw[e]at hd;cases hd;nofun;exact⟨s3,rfl,fr⟩
 ·intro M' fr;rw[DX];exact q M' fr
theorem WA.ex{M M':ag}{w:Nat}{T:Int}(h:WA M w T)(f:Ex M M'):WA M' w T:=h.fr f (by have:=h.lt;omega)
theorem IV{ds:List Dn}{i:Int}(h0:0<=i)(h1:i<ds.length):∃d,d∈ds/\(ds.map dw)[i.toNat]?=some (dw d):=by
 have hl:i.toNat<ds.length:=∅;exact⟨ds[i.toNat],qk hl,by rw[c_,bZ hl];rfl⟩
def xg(F:Fn):Prop:=∀(M:ag)(w:Nat)(T:Int)(f:Fm)(N:Nat)(s:Sd),WA M w T->T<10000->bV f->bz f N s->N<=900->aH (F [.aw w,da f,cA s] M) λr M'=>∃d,r=.d (dw d)/\cX f d/\cn f s d=true/\Fr w M M'
def MQ(F:Fn):Prop:=∀(M:ag)(w:Nat)(T:Int)(f:Fm)(N:Nat)(s:Sd),WA M w T->T<10000->bV f->bz f N s->N<=900->aH (F [.aw w,da f,cA s] M) λr M'=>∃d,r=.d (dw d)/\cX f d/\cn f s d=true/\WA M' w (T+4)/\Fr w M M'
theorem MR{G:a_}{cQ d8 ao:Nat}(hC:ko (G cQ))(hA:lu (G d8))(hD:d7 (G ao)):MQ (ah G 7 (rR cQ d8 ao)):=by
  intro M w T f N s hw hT hf hs hN;have h4:=hf.l4;have h1:=hf.l1;have B0:=hw.lt;rw[bf];show du G (rR cQ d8 ao) [some (.aw w),some (da f),some (cA s),none,none,none,none] M _ _ _ _;nofun;refine(hC M f N s hf hs hN).imp ?_;rintro o M1 ⟨n,rfl,NU,hn,f1⟩;nofun;rw[fu hn];refine Hx hn (by have:=DZ hf hs hN;unfold cm at this;rw[aB]at this;exact this) (λM2 f2=>?_) (rJ hn);have vd:=Ex.trans f1 f2;nofun;refine⟨s0,?_⟩;nofun;refine⟨⟨by rw[aB];omega,by rw[aB];omega⟩,?_⟩;have tw:(M2++[MO.lst ((cm f s).map dw)])[M2.length]?=some (.lst ((cm f s).map dw)):=av;have As:=vd.1;have IW:Fr w M (M2++[MO.lst ((cm f s).map dw)]):=Fr.app ((Fr.refl w M).back vd (.inl (aE _)));have lZ:WA (M2++[MO.lst ((cm f s).map dw)]) w T:=(hw.ex vd).app;have aJ:(M2++[MO.lst ((cm f s).map dw)]).length=M2.length+1:=by simp
  generalize (M2++[MO.lst ((cm f s).map dw)])=M3 at tw IW lZ aJ⊢;generalize M2.length=n3 at tw As aJ⊢;refine iX (n:=((f.ru.map Eu).length:Int).toNat) (λi ρ M'=>∃o5,∃ms:List Dn,ρ=[some (.aw w),some (da f),some (cA s),some (.aw n3),some (.aw M3.length),o5,none]/\M'[n3]?=some (.lst ((cm f s).map dw))/\M'[M3.length]?=some (.lst (ms.map dw))/\ms.length<=i/\(∀d∈ms,cX f d/\cn f s d=true)/\WA M' w T/\Fr w M M') ⟨_,[],rfl,aG tw,av,aE _,(by intro d h;cases h),lZ.app,IW.app⟩ ?_ ?_
  · rintro i ρ M' hi ⟨o5,ms,rfl,hc,hm,Ey,N0,Ac,Hq⟩;have hi:i<f.ru.length:=by rw[aB]at hi;omega
    have bw:cX f (.own i):=hi;rw[show(0:Int)+(i:Int)=((i:Nat):Int) by omega];nofun;refine⟨s2,?_⟩;nofun;refine(hA M' f N s (.own i) hf hs hN bw).imp ?_;rintro r M4 ⟨f4,rfl⟩;have XG:=Ex.get f4 hc;have IF:=Ex.get f4 hm;have mx:=Hq.back f4 (.inl Hq.1);have jA:=Ac.ex f4;nofun;rw[Rh]
    cases RB:(rp f s (.own i)).isSome with
    | true =>
      nofun;refine⟨cK IF,?_⟩;nofun;refine⟨s2,?_⟩;nofun;rw[dr IF (bq (by rw[aB];omega))];refine⟨_,ms++[.own i],rfl,bh XG ∅,?_,by simp;omega,ix (x:=Dn.own i) N0 ⟨bw,RB⟩,jA.set (by have:=IW.1;omega),mx.set (by have:=IW.1;omega)⟩;rw[bC IF,gy];rfl
    | false =>
      exact⟨_,ms,rfl,XG,IF,∅,N0,jA,mx⟩
  rintro ρ M' ⟨o5,ms,rfl,hc,hm,Ey,N0,Ac,Hq⟩;have Ey:ms.length<=4:=by rw[aB]at Ey;omega
  have Sz:=DZ hf hs hN;have hM3:=IW.1;nofun;refine(hD M' w T 8 Ac ∅ ∅ ∅).imp ?_;rintro r M5 ⟨wy,rfl,y0,y1,my,f5⟩;have V6:=f5.get hc ∅;have V7:=f5.get hm ∅;have oP:=Hq.trans f5;nofun;refine⟨s0,?_⟩;nofun;rw[DW V6 λd hd=>(DY hs hd).1.s]
  have second : du G [.iff (.eC [(.val (.cmp .ne (.dH 4) (.lst []))), (.val (.cmp .lt (.dH 6) (.bb (.int 7))))]) [.ret (.sub (.dH 4) (.call ao [(.dH 0), (.bi .len [(.dH 4)])]))] [], .ret (.tup [(.bb (.str "hear")), (.call ao [(.dH 0), (.bi .len [(.sub (.dH 1) (.bb (.int 0)))])]), (.sub (.bb (.str "abcz")) (.call ao [(.dH 0), (.bb (.int 4))]))])]
      [some (.aw w),some (da f),some (cA s),some (.aw n3),some (.aw M3.length),o5,some (.int wy)] M5 (λρ M'=>∃d,W.d D.aL=.d (dw d)/\cX f d/\cn f s d=true/\WA M' w (T+4)/\Fr w M M') (λr M'=>∃d,r=.d (dw d)/\cX f d/\cn f s d=true/\WA M' w (T+4)/\Fr w M M') (λ_ _=>False) (λ_ _=>False):=by
    have IX : du G [.ret (.tup [(.bb (.str "hear")), (.call ao [(.dH 0), (.bi .len [(.sub (.dH 1) (.bb (.int 0)))])]), (.sub (.bb (.str "abcz")) (.call ao [(.dH 0), (.bb (.int 4))]))])]
        [some (.aw w),some (da f),some (cA s),some (.aw n3),some (.aw M3.length),o5,some (.int wy)] M5 (λρ M'=>∃d,W.d D.aL=.d (dw d)/\cX f d/\cn f s d=true/\WA M' w (T+4)/\Fr w M M') (λr M'=>∃d,r=.d (dw d)/\cX f d/\cn f s d=true/\WA M' w (T+4)/\Fr w M M') (λ_ _=>False) (λ_ _=>False):=by
      nofun;refine(hD M5 w _ ((f.ru.map Eu).length:Int) my ∅ (by rw[aB];omega) (by rw[aB];omega)).imp ?_;rintro r M6 ⟨i,rfl,i0,i1,nW,f6⟩;nofun;refine(hD M6 w _ 4 nW ∅ ∅ ∅).imp ?_;rintro r M7 ⟨j,rfl,j0,j1,AA,f7⟩;obtain⟨c,hc,Hv⟩:=Mg (M:=M7) j0 j1;nofun;rw[hc];nofun;rw[aB]at i1;refine⟨s3,.dE i.toNat c,?_,⟨∅,Hv⟩,?_,AA.mono ∅,(oP.trans f6).trans f7⟩
      · show W.d (.tup [.str "hear",.int i,.str c])=.d (.tup [.str "hear",.int (i.toNat:Nat),.str c]);rw[Int.toNat_of_nonneg i0]
      · obtain⟨x,hx⟩:=rS (mv:=p0 f i.toNat) (s:=s.st.getD i.toNat 0) Hv;show(an (p0 f i.toNat) (s.st.getD i.toNat 0) c).isSome=true;rw[hx];rfl
    nofun;refine⟨s0,?_⟩;nofun;rw[DW V7 λd hd=>(N0 d hd).1.s]
    cases ms with
    | nil=>exact IX
    | cons d0 ms =>
      nofun;by_cases hy:wy<7
      · rw[fX hy];nofun;rw[eZ V7];nofun;refine(hD M5 w _ (((d0::ms).map dw).length:Int) my ∅ (by rw[aB,fJ];omega) (by rw[aB];omega)).imp ?_;rintro r M6 ⟨i,rfl,i0,i1,nW,f6⟩;rw[aB]at i1;obtain⟨d,hd,hg⟩:=IV i0 i1;nofun;rw[bN (f6.get V7 ∅) i0 hg];exact⟨d,rfl,(N0 d hd).1,(N0 d hd).2,nW.mono ∅,oP.trans f6⟩
      · rw[eU hy];exact IX
  cases XH:(cm f s).isEmpty with
  | true=>exact second
  | false =>
    nofun;by_cases hy:wy<4
    · rw[fX hy];nofun;rw[eZ V6];nofun
      have F7:0<(cm f s).length:=by
        cases hz:cm f s with
        | nil=>rw[hz]at XH;cases XH
        | cons a b=>simp
      refine(hD M5 w _ (((cm f s).map dw).length:Int) my ∅ (by rw[aB];omega) (by rw[aB];omega)).imp ?_;rintro r M6 ⟨i,rfl,i0,i1,nW,f6⟩;rw[aB]at i1;obtain⟨d,hd,hg⟩:=IV i0 i1;nofun;rw[bN (f6.get V6 ∅) i0 hg];exact⟨d,rfl,(DY hs hd).1,(DY hs hd).2,nW.mono ∅,oP.trans f6⟩
    · rw[eU hy];exact second
theorem MS{G:a_}{cQ d8 ao:Nat}(hC:ko (G cQ))(hA:lu (G d8))(hD:d7 (G ao)):xg (ah G 7 (rR cQ d8 ao)):=λM w T f N s hw hT hf hs hN=>(MR hC hA hD M w T f N s hw hT hf hs hN).imp λr M' ⟨d,a,b,c,_,e⟩=>⟨d,a,b,c,e⟩
end Ev
end
section
namespace Ev
open PySem
def Hy(ly:Nat):List S:=[.asg [3] 1,.asg [4] (.lst []),.dD [5,6] .seq [(.call ly [0,1,2])] [.asg [3] 5,.iff (.val (.cmp .fy 6 (.bb .aL))) [.expr (.me .append 4 [6])] []],.ret (.tup [3,4])]
noncomputable def sg(cw:Nat)(ao:Nat)(oz:Nat)(oA:Nat):List S:=[.asg [4] (.call cw [0,(.kn 6)]),.asg [5] (.lst []),.asg [6] (.lst [(.call ao [4,(.kn 13)]),(.bin .add (.kn 6) (.call ao [4,(.kn 13)])),(.bin .sub 3 (.call ao [4,(.kn 4)]))]),.dD [7] .fT [(.sub 6 (.bin .fdiv (.call ao [4,(.kn 9)]) (.kn 4)))] [.asg [8] (.call oz [(.call cw [0,(.bin .add (.kn 7) 7)]),1,2]),.expr (.me .append 5 [8]),.asg [2] (.sub (.call oA [1,2,8]) (.kn 0))],.ret 5]
end Ev
end
section
namespace Ev
open L2
open PySem PySem.Spec PyProof.Rows
def AE(f:Fm)(s:Sd)(d:Dn):Int×List (Int×Str)×Option Str:=(rp f s d).getD (0,[],none)
def d9(f:Fm)(s:Sd)(d:Dn):Sd:=Mq f s d (AE f s d)
def fin(f:Fm)(s:Sd)(ds:List Dn):Sd:=ds.foldl (d9 f) s
def tr(f:Fm):Sd->List Dn->List (Sd×Nat×Option Str)
 | _,[]=>[]
 | s,d::ds=>(d9 f s d,mc f d,(AE f s d).2.2)::tr f (d9 f s d) ds
def eh(f:Fm):Sd->List Dn->Prop
 | _,[]=>True
 | s,d::ds=>(cX f d/\cn f s d=true)/\eh f (d9 f s d) ds
theorem sh{f:Fm}{s:Sd}{a b:List Dn}:fin f s (a++b)=fin f (fin f s a) b:=by unfold fin;rw[Jw]
theorem mE{f:Fm}:∀{a b:List Dn}{s:Sd},eh f s (a++b)↔eh f s a/\eh f (fin f s a) b
 | [],b,s=>⟨λh=>⟨trivial,h⟩,λh=>h.2⟩
 | d::a,b,s=>by
  show _/\eh f (d9 f s d) (a++b)↔(_/\eh f (d9 f s d) a)/\eh f (fin f (d9 f s d) a) b;rw[mE (a:=a)];constructor
  ·rintro⟨h1,h2,h3⟩;exact⟨⟨h1,h2⟩,h3⟩
  ·rintro⟨⟨h1,h2⟩,h3⟩;exact⟨h1,h2,h3⟩
theorem xh{f:Fm}:∀{a b:List Dn}{s:Sd},tr f s (a++b)=tr f s a++tr f (fin f s a) b
 | [],b,s=>rfl
 | d::a,b,s=>by
  show _::tr f (d9 f s d) (a++b)=_;rw[xh (a:=a)];rfl
theorem lz{f:Fm}:∀{a:List Dn}{s:Sd},(tr f s a).length=a.length
 | [],s=>rfl
 | d::a,s=>by show(tr f (d9 f s d) a).length+1=_;rw[lz];rfl
theorem D0{α:Type}{l:List α}{i:Nat}{x:α}(h:l[i]?=some x):l=l.take i++x::l.drop (i+1):=by
 obtain⟨hi,rfl⟩:=bG.mp h;rw[<- List.drop_eq_getElem_cons hi,Jr]
theorem xj{f:Fm}{s:Sd}{ds:List Dn}{i:Nat}{d:Dn}(h:eh f s ds)(hi:ds[i]?=some d):cX f d/\cn f (fin f s (ds.take i)) d=true:=by
 rw[D0 hi,mE]at h;exact h.2.1
theorem oB{f:Fm}{s:Sd}{ds:List Dn}{i:Nat}(h:eh f s ds):eh f s (ds.take i):=by
 rw[<- Jr i ds,mE]at h;exact h.1
theorem oC{f:Fm}{s:Sd}{d:Dn}(h:cn f s d=true):rp f s d=some (AE f s d):=by
 unfold cn at h;obtain⟨x,e⟩:=vj.mp h;unfold AE;rw[e];rfl
theorem bz.mono{f:Fm}{N N2:Nat}{s:Sd}(h:bz f N s)(k:N<=N2):bz f N2 s:=⟨h.ls,h.st,h.ll,λl hl=>(h.ld l hl).mono k⟩
theorem bz.d9{f:Fm}(hf:bV f){N:Nat}{s:Sd}{d:Dn}(h:bz f N s)(hd:cX f d)(hc:cn f s d=true):bz f (N+3) (d9 f s d):=h.Mq hd (uJ hf h hd (oC hc))
theorem bz.fin{f:Fm}(hf:bV f):∀{ds:List Dn}{N:Nat}{s:Sd},bz f N s->eh f s ds->bz f (N+3*ds.length) (fin f s ds)
 | [],N,s,h,_=>h
 | d::ds,N,s,h,k=>by
  have:=bz.fin hf (h.d9 hf k.1.1 k.1.2) k.2;rw[show N+3*(d::ds).length=N+3+3*ds.length by rw[fJ];omega];exact this
def Ah(x:Sd×Nat×Option Str):D:=.tup [cA x.1,NY x.2.1 x.2.2]
noncomputable def RC(x:Sd×Nat×Option Str):Option (Nat×Str):=x.2.2.map λw=>(x.2.1,w)
def mF(f:Fm)(s:Sd)(ds:List Dn):List (Nat×Str):=(tr f s ds).filterMap RC
def wD(p:Nat×Str):D:=.tup [.int p.1,.str p.2]
theorem Hz{f:Fm}{s:Sd}{a b:List Dn}:mF f s (a++b)=mF f s a++mF f (fin f s a) b:=by
 unfold mF;rw[xh,EG]
theorem D1{f:Fm}(hf:bV f):∀{ds:List Dn}{N:Nat}{s:Sd},bz f N s->eh f s ds->∀p∈mF f s ds,p.1<f.ru.length/\Aa (some p.2)
 | [],N,s,_,_,p,hp=>by cases hp
 | d::ds,N,s,h,k,p,hp=>by
  unfold mF tr at hp;rw[jD]at hp;have eA:=D1 hf (h.d9 hf k.1.1 k.1.2) k.2 p;have ax:=uJ hf h k.1.1 (oC k.1.2)
  cases hw:(AE f s d).2.2 with
  | none=>rw[hw]at hp;exact eA hp
  | some w =>
   rw[hw]at hp;rcases bT.mp hp with e | e
   ·subst e;refine⟨k.1.1.mc hf,?_⟩;have:=ax.w;rw[hw]at this;exact this
   ·exact eA e
theorem MT{M:ag}{n:Nat}{ds:List D}(hM:M[n]?=some (.lst ds)):jT .enum [.d (.aw n)] M=.ok (.jh n) M:=by
 unfold jT bF;simp only[hM];rfl
theorem D2{M:ag}{n:Nat}{ds:List D}(hM:M[n]?=some (.lst ds)):dj M (.jh n)=ds.length:=by unfold dj;simp only[hM]
theorem V8{f:Fm}{d:Dn}{x:Int×List (Int×Str)×Option Str}:Ew f d x=NY (mc f d) x.2.2:=by
 obtain⟨a,sd,w⟩:=x;cases w<;>rfl
theorem IY{f:Fm}:∀{ds:List Dn}{s:Sd}{i:Nat}{x:Sd×Nat×Option Str},(tr f s ds)[i]?=some x->x.1=fin f s (ds.take (i+1))
 | [],s,i,x,h=>by simp[tr]at h
 | d::ds,s,0,x,h=>by
  have h:(d9 f s d,mc f d,(AE f s d).2.2)=x:=by simpa[tr]using h
  rw[<- h];rfl
 | d::ds,s,i+1,x,h=>by
  have h:(tr f (d9 f s d) ds)[i]?=some x:=by simpa[tr]using h
  have q:=IY (ds:=ds) (s:=d9 f s d) (i:=i) h;rw[q];rfl
def sj(F:Fn):Prop:=∀(M:ag)(ns:List Int)(f:Fm)(s:Sd)(most:Int),ns.length<=63->bV f->bz f 4 s->18<=most->most<=60->aH (F [.ls (ns.map D.int),da f,cA s,.int most] M) λr M'=>∃n,∃ds:List Dn,r=.d (.aw n)/\M.length<=n/\M'[n]?=some (.lst (ds.map dw))/\eh f s ds/\(ds.length:Int)<=most/\Ex M M'
theorem HA{G:a_}{cw ao oz oA:Nat}(hW:nV (G cw))(hD:d7 (G ao))(hNx:xg (G oz))(hDo:iZ (G oA)):sj (ah G 9 (sg cw ao oz oA)):=by
 intro M ns f s most kC hf hs hm0 VI;rw[bf];show du G (sg cw ao oz oA) [some (.ls (ns.map D.int)),some (da f),some (cA s),some (.int most),none,none,none,none,none] M _ _ _ _;nofun;refine(hW M ns 6 ∅ ∅ kC).imp ?_;rintro r M1 ⟨rfl,II,u_,f1⟩;nofun;refine⟨s0,?_⟩;nofun;have hL1:(M1++[MO.lst []])[M1.length]?=some (.lst []):=av;refine(hD _ M.length 0 13 u_.app ∅ ∅ ∅).imp ?_;rintro r M2 ⟨a,rfl,a0,a1,lZ,f2⟩;nofun;refine(hD M2 M.length _ 13 lZ ∅ ∅ ∅).imp ?_;rintro r M3 ⟨b,rfl,b0,b1,pX,f3⟩;nofun;refine(hD M3 M.length _ 4 pX ∅ ∅ ∅).imp ?_;rintro r M4 ⟨c,rfl,c0,c1,jA,f4⟩;nofun;refine⟨s3,?_⟩;nofun;have XI:M4[M1.length]?=some (.lst []):=f4.get (f3.get (f2.get hL1 ∅) ∅) ∅;have l4:=aT XI;refine(hD _ M.length _ 9 jA.app ∅ ∅ ∅).imp ?_;rintro r M5 ⟨g,rfl,g0,g1,my,f5⟩;have hA5:M5[M4.length]?=some (.lst [.int a,.int (6+b),.int (most-c)]):=f5.get av ∅;have hL5:M5[M1.length]?=some (.lst []):=f5.get (aG XI) ∅;have oP:Ex M M5:=((((f1.app).trans f2).trans f3).trans f4).app.trans f5;nofun;refine⟨⟨∅,∅⟩,?_⟩
 obtain⟨d,hd,j,rfl,j0,j1⟩:∃d,[D.int a,.int (6+b),.int (most-c)][(g / 4).toNat]?=some d/\∃j:Int,d=.int j/\0<=j/\j<=most:=lY (ds:=[D.int a,.int (6+b),.int (most-c)]) (k:=3) (λd hd=>by
  simp only[bT,fW,fb]at hd;rcases hd with rfl | rfl | rfl
  ·exact⟨_,rfl,∅,∅⟩
  ·exact⟨_,rfl,∅,∅⟩
  ·exact⟨_,rfl,∅,∅⟩) ∅ ∅ rfl
 nofun;rw[bN hA5 (i:=g / 4) ∅ hd];nofun;refine⟨⟨∅,∅⟩,?_⟩;have hm:M.length<=M1.length:=f1.1;refine iX (n:=j.toNat) (λi ρ M'=>∃o7 o8,∃ds:List Dn,ρ=[some (.ls (ns.map D.int)),some (da f),some (cA (fin f s ds)),some (.int most),some (.aw M.length),some (.aw M1.length),some (.aw M4.length),o7,o8]/\M'[M1.length]?=some (.lst (ds.map dw))/\ds.length=i/\eh f s ds/\Ex M M') ⟨_,_,[],rfl,hL5,rfl,trivial,oP⟩ ?_ ?_
 ·rintro i ρ M6 hi ⟨o7,o8,ds,rfl,SY,XJ,S0,NV⟩;have SQ:=bz.fin hf hs S0;have hi60:(i:Int)<60:=∅;nofun;refine(hW M6 ns (7+(0+(i:Int))) ∅ ∅ kC).imp ?_;rintro r M7 ⟨rfl,XD,AA,f7⟩;have l6:=aT SY;nofun;refine(hNx M7 M6.length 0 f _ _ AA ∅ hf SQ ∅).imp ?_;rintro r M8 ⟨d,rfl,SE,hd2,f8⟩;have XM:Ex M6 M8:=f7.trans f8;have V9:=Ex.get XM SY;nofun;refine⟨cK V9,?_⟩;nofun;rw[dr V9 (bq (by rw[aB];omega))];nofun;have hx:=oC hd2;refine(hDo _ f _ _ d _ hf SQ ∅ SE hx).imp ?_;rintro r M9 ⟨f9,rfl⟩;refine⟨some (.int (0+(i:Int))),some (dw d),ds++[d],?_,?_,by simp[XJ],?_,?_⟩
  ·rw[sh];rfl
  ·refine Ex.get f9 ?_;rw[bC V9,gy];rfl
  ·rw[mE];exact⟨S0,⟨SE,hd2⟩,trivial⟩
  ·exact Ex.trans (Fr.set (Ex.trans NV XM) hm) f9
 ·rintro ρ M6 ⟨o7,o8,ds,rfl,SY,XJ,S0,NV⟩;exact⟨_,ds,rfl,hm,SY,S0,∅,NV⟩
theorem yK:PyData.strOk "keep" = true:=⋯
theorem sk:PyData.strOk "note" = true:=⋯
inductive vf (f:Fm) (M:ag):D->Prop
 | aL:vf f M .aL
 | int (i:Int):vf f M (.int i)
 | str (x:Str):vf f M (.str x)
 | emp:vf f M (.tup [])
 | aw (n:Nat) (ds:List D) (h:M[n]?=some (.lst ds)):vf f M (.aw n)
 | keep (x:D):vf f M (.tup [.str "keep",x])
 | XN:vf f M (.tup [.str "own",.bl true])
 | XQ:vf f M (.tup [.str "own",.int f.ru.length])
 | aa:vf f M (.tup [.str "hear",.int 0,.str "aa"])
 | off (k:Int):vf f M (.tup [.str "come",.int f.ro.length,.int k])
 | note (x y:D):vf f M (.tup [.str "note",x,y])
def xk(F:Fn):Prop:=∀(M:ag),aH (F [.bl true] M) λr M'=>M=M'/\r=.d (.bl false)
theorem MU{G:a_}:xk (ah G 1 nZ):=by
 intro M;rw[bf];show du G nZ [some (.bl true)] M _ _ _ _;nofun;exact⟨rfl,rfl⟩
def xl(F:Fn):Prop:=∀(M:ag)(n:Nat),(aH (F [.int n,.int n] M) λr M'=>M=M'/\r=.d (.bl false))/\aH (F [.bl true,.int n] M) λr M'=>M=M'/\r=.d (.bl false)
theorem MV{G:a_}{cy:Nat}(hW:oq (G cy))(hT:xk (G cy)):xl (ah G 2 (lq cy)):=by
 intro M n;constructor
 ·rw[bf];show du G (lq cy) [some (.int n),some (.int n)] M _ _ _ _;nofun;refine(hW M n).imp ?_;rintro r M1 ⟨rfl,rfl⟩;nofun;rw[eU (show ¬(n:Int)<n by omega)];exact⟨rfl,rfl⟩
 ·rw[bf];show du G (lq cy) [some (.bl true),some (.int n)] M _ _ _ _;nofun;refine(hT M).imp ?_;rintro r M1 ⟨rfl,rfl⟩;nofun;exact⟨rfl,rfl⟩
def D3(F:Fn):Prop:=∀(M:ag),aH (F [.str "aa"] M) λr M'=>M=M'/\r=.d (.bl false)
theorem RE{G:a_}:D3 (ah G 1 uF):=by
 intro M;rw[bf];show du G uF [some (.str "aa")] M _ _ _ _;nofun;exact⟨rfl,rfl⟩
theorem ni0{M:ag}:aZ .cT (.d (.int 0)) (.d (.tup [.int 2,.int 3])) M=.ok true M:=wY (ks:=[2,3])
def xm(F:Fn):Prop:=∀(M:ag)(f:Fm)(t:D),bV f->vf f M t->aH (F [da f,t] M) λr M'=>M=M'/\r=.d (.bl false)
theorem MW{G:a_}{eR kj cy:Nat}(hB:rX (G eR))(hN:xl (G eR))(hS:D3 (G kj)):xm (ah G 2 (n_ eR kj cy)):=by
 intro M f t hf ht;rw[bf];show du G (n_ eR kj cy) [some (da f),some t] M _ _ _ _
 cases ht with
 | aL=>nofun;exact⟨rfl,rfl⟩
 | int i=>nofun;exact⟨rfl,rfl⟩
 | str x=>nofun;exact⟨rfl,rfl⟩
 | aw n ds h =>
  nofun;rw[show iL (.pL .tuple) [.d (.aw n)] M=.ok (.d (.bl false)) M by unfold iL;simp only[Ge,h];rfl];nofun;exact⟨rfl,rfl⟩
 | emp =>
  nofun;refine⟨s2,?_⟩;nofun;rw[show(([]:List D).length:Int)=0 from rfl,ni0];nofun;exact⟨rfl,rfl⟩
 | keep x =>
  nofun;refine⟨s2,?_⟩;nofun;rw[show(([D.str "keep",x].length:Nat):Int)=2 from rfl,SV];nofun;rw[bo yK bg,show(("keep" : Str) == "own")=false by decide +kernel];nofun;exact⟨rfl,rfl⟩
 | XN =>
  nofun;refine⟨s2,?_⟩;nofun;rw[show(([D.str "own",D.bl true].length:Nat):Int)=2 from rfl,SV];nofun;rw[bo bg bg,DM];nofun;exact(hN M _).2
 | XQ =>
  nofun;refine⟨s2,?_⟩;nofun;rw[show(([D.str "own",D.int f.ru.length].length:Nat):Int)=2 from rfl,SV];nofun;rw[bo bg bg,DM];nofun;rw[show(((f.ru.map Eu).length:Nat):Int)=(f.ru.length:Int) by rw[aB]];exact(hN M _).1
 | aa =>
  nofun;refine⟨s2,?_⟩;nofun;rw[show(([D.str "hear",D.int 0,D.str "aa"].length:Nat):Int)=3 from rfl,Rb];nofun;rw[bo bj bj,Mr];nofun;refine(hB M 0 _ (by rw[aB];exact hf.l1)).imp ?_;rintro r M1 ⟨rfl,rfl⟩;nofun;exact hS M
 | off k =>
  nofun;refine⟨s2,?_⟩;nofun;rw[show(([D.str "come",D.int f.ro.length,D.int k].length:Nat):Int)=3 from rfl,Rb];nofun;rw[bo aD bj,Ms];nofun;rw[bo aD aD,uK];nofun;rw[show(((f.ro.map z_).length:Nat):Int)=(f.ro.length:Int) by rw[aB]];refine(hN M _).1.imp ?_;rintro r M1 ⟨rfl,rfl⟩;nofun;exact⟨rfl,rfl⟩
 | note x y =>
  nofun;refine⟨s2,?_⟩;nofun;rw[show(([D.str "note",x,y].length:Nat):Int)=3 from rfl,Rb];nofun;rw[bo sk bj,show(("note" : Str) == "hear")=false by decide +kernel];nofun;rw[bo sk aD,show(("note" : Str) == "come")=false by decide +kernel];nofun;exact⟨rfl,rfl⟩
def D4(F:Fn):Prop:=∀(M:ag)(f:Fm)(s:Sd)(t:D),bV f->vf f M t->aH (F [da f,cA s,t] M) λr M'=>M=M'/\r=.d (.bl false)
theorem V_{G:a_}{gO kAnswer uG:Nat}(hP:xm (G gO)):D4 (ah G 3 (DB gO kAnswer uG)):=by
 intro M f s t hf ht;rw[bf];show du G (DB gO kAnswer uG) [some (da f),some (cA s),some t] M _ _ _ _;nofun;refine(hP M f t hf ht).imp ?_;rintro r M1 ⟨rfl,rfl⟩;nofun;exact⟨rfl,rfl⟩
noncomputable def oE(gu eM:Nat)(C:Addr):List S:=[.iff (.neg (.val (.call gu [0,1,2]))) [.Ay C "number" (.kn 0)] [],.ret (.call eM [0,1,2])]
theorem XR{G:a_}{gu eM:Nat}{C:Addr}(hC:Ae (G gu))(hO:iZ (G eM)):iZ (ah G 3 (oE gu eM C)):=by
 intro M f N s d x hf hs hN hd hx;rw[bf];show du G (oE gu eM C) [some (da f),some (cA s),some (dw d)] M _ _ _ _;nofun;refine(hC M f N s d hf hs hN hd).imp ?_;rintro r M1 ⟨f1,e⟩;have RB:cn f s d=true:=by unfold cn;rw[hx];rfl
 rw[RB]at e;subst e;nofun;exact(hO M1 f N s d x hf hs hN hd hx).imp λr M2 ⟨f2,e⟩=>⟨Ex.trans f1 f2,e⟩
def Not(f:Fm)(s:Sd)(M:ag)(t:D):Prop:=vf f M t\/∃d,t=dw d/\cX f d/\rp f s d=none
def MX(C:Addr)(k:Int):vX:=⟨C,[("number",.int k)]⟩
theorem yL{F:Fn}(hC:Ae F)(hN:D4 F){M:ag}{f:Fm}{N:Nat}{s:Sd}{t:D}(hf:bV f)(hs:bz f N s)(h9:N<=900)(ht:Not f s M t):∃M1,F [da f,cA s,t] M=.ok (.d (.bl false)) M1/\Ex M M1:=by
 rcases ht with ht | ⟨d,rfl,hd,hr⟩
 ·obtain⟨a,M1,e,e1,e2⟩:=nN (hN M f s t hf ht);subst e1 e2;exact⟨_,e,Ex.refl _⟩
 ·obtain⟨a,M1,e,e1,e2⟩:=nN (hC M f N s d hf hs h9 hd);have RB:cn f s d=false:=by unfold cn;rw[hr];rfl
  rw[RB]at e2;subst e2;exact⟨M1,e,e1⟩
theorem MY{o:bS W}{e:vX->ag->Prop}(h:@aH ⟨e⟩ W o λ_ _=>False):∃x M,o=.err x M/\e x M:=by
 cases o with
 | ok a M=>rw[@aN ⟨e⟩]at h;exact h.elim
 | err x M=>rw[@dt ⟨e⟩]at h;exact⟨x,M,rfl,h⟩
 | af=>rw[@az ⟨e⟩]at h;exact h.elim
def XS(C:Addr)(F:Fn):Prop:=∀(M:ag)(f:Fm)(N:Nat)(s:Sd)(t:D),bV f->bz f N s->N<=900->Not f s M t->∃M',F [da f,cA s,t] M=.err (MX C 0) M'/\Ex M M'
theorem XT{G:a_}{gu eM:Nat}{C:Addr}(hC:Ae (G gu))(hN:D4 (G gu)):XS C (ah G 3 (oE gu eM C)):=by
 intro M f N s t hf hs h9 ht;obtain⟨M1,e,f1⟩:=yL hC hN hf hs h9 ht
 have h:@aH ⟨λx M'=>x=MX C 0/\Ex M M'⟩ W (ah G 3 (oE gu eM C) [da f,cA s,t] M) λ_ _=>False:=by
  letI:Er:=⟨λx M'=>x=MX C 0/\Ex M M'⟩
  rw[bf];show du G (oE gu eM C) [some (da f),some (cA s),some t] M _ _ _ _;nofun;rw[e,aN];nofun;exact⟨rfl,f1⟩
 obtain⟨x,M',e1,rfl,e3⟩:=MY h;exact⟨M',e1,e3⟩
def ToldF(F:Fn):Prop:=∀(M:ag)(f:Fm)(N:Nat)(s:Sd)(t:D),bV f->bz f N s->N<=900 ->
 (∀d x,t=dw d->cX f d->rp f s d=some x->aH (F [da f,cA s,t] M) λr M'=>Ex M M'/\r=.d (.tup [cA (Mq f s d x),Ew f d x]))/\(Not f s M t->aH (F [da f,cA s,t] M) λr M'=>Ex M M'/\r=.d (.tup [.str "no",.int 0]))
theorem S1{F:Fn}{C:Addr}(hO:iZ F)(hX:XS C F):ToldF (kc C "number" F):=by
 intro M f N s t hf hs h9;constructor
 ·rintro d x rfl hd hx;obtain⟨r,M1,e,f1,rfl⟩:=nN (hO M f N s d x hf hs h9 hd hx);exact nM (a:=.d _) (M:=M1) (by unfold kc;rw[e];rfl) ⟨f1,rfl⟩
 ·intro ht;obtain⟨M1,e,f1⟩:=hX M f N s t hf hs h9 ht;exact nM (a:=.d _) (M:=M1) (by unfold kc;rw[e];exact aF rfl) ⟨f1,rfl⟩
inductive Tg where
 | dn (d:Dn) | odd (t:D)
def dS:Tg->D
 | .dn d=>dw d
 | .odd t=>t
inductive vg:D->Prop
 | aL:vg .aL
 | int:vg (.int 7)
 | str:vg (.str "own")
 | keep:vg (.tup [.str "keep",.int 0])
 | note:vg (.tup [.str "note",.int 0,.int 0])
def l0(f:Fm):Tg->Prop
 | .dn d=>cX f d
 | .odd t=>vg t
theorem vg.bad{f:Fm}{M:ag}{t:D}(h:vg t):vf f M t:=by
 cases h with
 | aL=>exact .aL
 | int=>exact .int 7
 | str=>exact .str _
 | keep=>exact .keep _
 | note=>exact .note _ _
def fz(f:Fm):Sd->List Tg->List Dn
 | _,[]=>[]
 | s,.dn d::ts=>if cn f s d=true then d::fz f (d9 f s d) ts else []
 | _,.odd _::_=>[]
theorem ku{f:Fm}:∀{ts:List Tg}{s:Sd},(∀t∈ts,l0 f t)->eh f s (fz f s ts)
 | [],s,_=>trivial
 | .odd t::ts,s,_=>trivial
 | .dn d::ts,s,h=>by
  unfold fz;by_cases c:cn f s d=true
  ·rw[aF c];exact⟨⟨h (.dn d) ez,c⟩,ku λt ht=>h t (dP _ ht)⟩
  ·rw[aP c];trivial
theorem kz{f:Fm}:∀{ts:List Tg}{s:Sd},(fz f s ts).length<=ts.length
 | [],s=>aE _
 | .odd t::ts,s=>mL _
 | .dn d::ts,s=>by
  unfold fz;by_cases c:cn f s d=true
  ·rw[aF c];exact Nat.succ_le_succ kz
  ·rw[aP c];exact mL _
theorem xn{f:Fm}:∀{ts:List Tg}{s:Sd}{i:Nat}{d:Dn},(fz f s ts)[i]?=some d->ts[i]?=some (.dn d)
 | [],s,i,d,h=>by simp[fz]at h
 | .odd t::ts,s,i,d,h=>by simp[fz]at h
 | .dn d::ts,s,i,d',h=>by
  unfold fz at h;by_cases c:cn f s d=true
  ·rw[aF c]at h
   cases i with
   | zero=>cases h;rfl
   | succ i=>exact xn (ts:=ts) (s:=d9 f s d) (i:=i) (by simpa using h)
  ·rw[aP c]at h;simp at h
theorem oF{f:Fm}{M:ag}:∀{ts:List Tg}{s:Sd}{t:Tg},ts[(fz f s ts).length]?=some t->l0 f t->Not f (fin f s (fz f s ts)) M (dS t)
 | [],s,t,h,_=>by simp at h
 | .odd t::ts,s,t',h,k=>by
  have h:some (Tg.odd t)=some t':=h;cases h;exact .inl (vg.bad k)
 | .dn d::ts,s,t,h,k=>by
  unfold fz at h⊢;by_cases c:cn f s d=true
  ·rw[aF c]at h⊢;exact oF (ts:=ts) (s:=d9 f s d) (by simpa using h) k
  ·rw[aP c]at h⊢;have h:some (Tg.dn d)=some t:=h;cases h;refine .inr ⟨d,rfl,k,?_⟩;show rp f s d=none;unfold cn at c
   cases e:rp f s d with
   | none=>rfl
   | some x=>rw[e]at c;exact absurd rfl c
inductive lL (M:ag) (l:List D):D->Prop
 | l {n:Nat} (h:M[n]?=some (.lst l)):lL M l (.aw n)
 | t:lL M l (.tup l)
theorem lL.ex{M M':ag}{l:List D}{x:D}(h:lL M l x)(f:Ex M M'):lL M' l x:=by
 cases h with
 | l h=>exact .l (Ex.get f h)
 | t=>exact .t
section
variable [er:Er] {G:a_} {b:List S} {tg:List Nat} {ρ:En} {M:ag} {nx:En->ag->Prop} {rt:W->ag->Prop} {bk ct:En->ag->Prop}
theorem HB{n:Nat}{ds:List D}(I:Nat->En->ag->Prop)(hM:∀i ρ M,I i ρ M->M[n]?=some (.lst ds))(h0:I 0 ρ M)(hs:∀i ρ M d,ds[i]?=some d->I i ρ M->C9 (bH tg (.tup [.int i,d]) ρ) λρ=>du G b ρ M (I (i+1)) rt nx (I (i+1)))(he:∀ρ M,I ds.length ρ M->nx ρ M){k:Nat}(hk:k=ds.length):eY (dq (λρ M=>cH G b ρ M) (.jh n) tg k 0 ρ M) nx rt bk ct:=by
 subst hk;have aJ:(ds.mapIdx λi d=>D.tup [.int (i:Nat),d]).length=ds.length:=by simp
 refine jv (ds:=ds.mapIdx λi d=>D.tup [.int (i:Nat),d]) I (λi ρ M h _=>?_) (λi ρ M d h e=>?_) (λρ M h=>he ρ M (by rw[aJ]at h;exact h)) ds.length 0 ρ M h0 (by rw[aJ];omega)
 ·unfold itemAt;simp only[hM i ρ M h];rw[EL]
 ·rw[EL]at e
  cases e3:ds[i]? with
  | none=>rw[e3]at e;cases e
  | some d' =>
   rw[e3]at e;cases e;have q:=hs i ρ M d' e3 h
   cases e2:bH tg (.tup [.int i,d']) ρ with
   | none=>rw[e2]at q;exact q.elim
   | some eg=>rw[e2]at q;exact⟨eg,rfl,by rw[rG];exact q⟩
theorem aH.any{α:Type}{o:bS α}{P Q:α->ag->Prop}(h:@aH j9 α o P)(k:∀a M,P a M->Q a M):aH o Q:=by
 obtain⟨a,M,e,p⟩:=nN h;exact nM e (k a M p)
end
noncomputable def so(gu eM:Nat)(C:Addr):List S:=[.asg [3] (.lst []),.asg [4] 1,.dD [5,6] .enum [2] [.iff (.neg (.val (.call gu [0,4,6]))) [.Ay C "number" 5] [],.asg [7] (.call eM [0,4,6]),.asg [4] (.ks 7 0),.expr (.me .append 3 [7])],.ret 3]
def xo(C:Addr)(F:Fn):Prop:=∀(M:ag)(f:Fm)(N:Nat)(s:Sd)(ts:List Tg)(x:D),bV f->bz f N s->N+3*ts.length<=880->(∀t∈ts,l0 f t)->lL M (ts.map dS) x ->
 @aH ⟨λy M'=>(fz f s ts).length<ts.length/\y=MX C (fz f s ts).length/\Ex M M'⟩ W (F [da f,cA s,x] M) λr M'=>(fz f s ts).length=ts.length/\∃n',r=.d (.aw n')/\M.length<=n'/\M'[n']?=some (.lst ((tr f s (fz f s ts)).map Ah))/\Ex M M'
theorem MZ{G:a_}{gu eM:Nat}{C:Addr}(hC:Ae (G gu))(hX:D4 (G gu))(hO:iZ (G eM)):xo C (ah G 8 (so gu eM C)):=by
  intro M f N s ts x hf hs hN ht hx;have jM:=kz (f:=f) (s:=s) (ts:=ts);have w_:=ku (s:=s) ht;have M_:=@xn f ts s;have Iy:=λM=>@oF f M ts s;generalize fz f s ts=ds at jM w_ M_ Iy⊢
  letI:Er:=⟨λy M'=>ds.length<ts.length/\y=MX C ds.length/\Ex M M'⟩
  show aH (ah G 8 (so gu eM C) [da f,cA s,x] M) _;rw[bf];show du G (so gu eM C) [some (da f),some (cA s),some x,none,none,none,none,none] M _ _ _ _
  have step : ∀ (i : Nat) (ρ : En) (M' : ag) (d : D) (bk : En -> ag -> Prop), (ts.map dS)[i]? = some d -> (∃ o5 o6 o7, i <= ds.length /\ ρ = [some (da f), some (cA s), some x, some (.aw M.length), some (cA (fin f s (ds.take i))), o5, o6, o7] /\ M'[M.length]? = some (.lst ((tr f s (ds.take i)).map Ah)) /\ Ex M M') ->
      C9 (bH [5,6] (.tup [.int i,d]) ρ) λρ=>du G [.iff (.neg (.val (.call gu [(.dH 0),(.dH 4),(.dH 6)]))) [.Ay C "number" (.dH 5)] [],.asg [7] (.call eM [(.dH 0),(.dH 4),(.dH 6)]),.asg [4] (.sub (.dH 7) (.bb (.int 0))),.expr (.me .append (.dH 3) [(.dH 7)])] ρ M'
        (λρ M'=>∃o5 o6 o7,i+1<=ds.length/\ρ=[some (da f),some (cA s),some x,some (.aw M.length),some (cA (fin f s (ds.take (i+1)))),o5,o6,o7]/\M'[M.length]?=some (.lst ((tr f s (ds.take (i+1))).map Ah))/\Ex M M')
        (λr M'=>ds.length=ts.length/\∃n',r=.d (.aw n')/\M.length<=n'/\M'[n']?=some (.lst ((tr f s ds).map Ah))/\Ex M M') bk (λρ M'=>∃o5 o6 o7,i+1<=ds.length/\ρ=[some (da f),some (cA s),some x,some (.aw M.length),some (cA (fin f s (ds.take (i+1)))),o5,o6,o7]/\M'[M.length]?=some (.lst ((tr f s (ds.take (i+1))).map Ah))/\Ex M M'):=by
    rintro i ρ M' d bk hd ⟨o5,o6,o7,hi,rfl,hL,fr⟩;rw[c_]at hd;have Cd:=bz.fin hf hs (oB (i:=i) w_);have RF:(ds.take i).length=i:=by rw[dg];omega
    rw[RF]at Cd;by_cases gh:i<ds.length
    · have e:=bZ gh;generalize ds[i]=d0 at e;rw[M_ e]at hd;cases hd;obtain⟨k1,k2⟩:=xj w_ e;have hx:=oC k2;nofun;refine(hC M' f _ _ d0 hf Cd ∅ k1).any ?_;rintro r M2 ⟨f2,e2⟩;rw[k2]at e2;subst e2;nofun;refine(hO M2 f _ _ d0 _ hf Cd ∅ k1 hx).any ?_;rintro r M3 ⟨f3,rfl⟩;have Wa:=Ex.get f3 (Ex.get f2 hL);nofun;refine⟨cK Wa,?_⟩;nofun;rw[dr Wa (bq (by rw[aB,lz,RF];omega))];have ML:ds.take (i+1)=ds.take i++[d0]:=cM e;refine⟨some (.int i),some (dw d0),some (.tup [cA (d9 f (fin f s (ds.take i)) d0),Ew f d0 (AE f (fin f s (ds.take i)) d0)]),gh,?_,?_,Fr.set (Ex.trans (Ex.trans fr f2) f3) (aE _)⟩
      · rw[ML,sh];rfl
      · rw[bC Wa,ML,xh,gy,V8];rfl
    · have hi2:i=ds.length:=∅;subst hi2
      cases et:ts[ds.length]? with
      | none=>rw[et]at hd;cases hd
      | some t =>
        rw[et]at hd;cases hd;have hn:=Iy M' et (ht t (fw et));rw[jE]at Cd⊢;obtain⟨M2,e2,f2⟩:=yL hC hX hf Cd ∅ hn;nofun;rw[e2,aN];nofun;exact⟨(bG.mp et).1,rfl,Ex.trans fr f2⟩
  have last : ∀ (ρ : En) (M' : ag), (∃ o5 o6 o7, (ts.map dS).length <= ds.length /\ ρ = [some (da f), some (cA s), some x, some (.aw M.length), some (cA (fin f s (ds.take (ts.map dS).length))), o5, o6, o7] /\ M'[M.length]? = some (.lst ((tr f s (ds.take (ts.map dS).length)).map Ah)) /\ Ex M M') ->
      du G [.ret (.dH 3)] ρ M' (λ_ M'=>ds.length=ts.length/\∃n',W.d .aL=.d (.aw n')/\M.length<=n'/\M'[n']?=some (.lst ((tr f s ds).map Ah))/\Ex M M') (λr M'=>ds.length=ts.length/\∃n',r=.d (.aw n')/\M.length<=n'/\M'[n']?=some (.lst ((tr f s ds).map Ah))/\Ex M M') (λ_ _=>False) (λ_ _=>False):=by
    rintro ρ M' ⟨o5,o6,o7,hi,rfl,hL,fr⟩;rw[aB]at hi;rw[aB,AG jM]at hL;nofun;exact⟨∅,_,rfl,aE _,hL,fr⟩
  nofun;refine⟨s0,?_⟩;nofun;have h0:∃o5 o6 o7,0<=ds.length/\[some (da f),some (cA s),some x,some (D.aw M.length),some (cA s),none,none,none]=[some (da f),some (cA s),some x,some (.aw M.length),some (cA (fin f s (ds.take 0))),o5,o6,o7]/\(M++[MO.lst []])[M.length]?=some (.lst ((tr f s (ds.take 0)).map Ah))/\Ex M (M++[MO.lst []]):=⟨_,_,_,mL _,rfl,av,(Ex.refl M).app⟩
  cases hx with
  | l h =>
    rw[MT (aG h)];exact HB (ds:=ts.map dS) (λi ρ M'=>∃o5 o6 o7,i<=ds.length/\ρ=[some (da f),some (cA s),some (.aw _),some (.aw M.length),some (cA (fin f s (ds.take i))),o5,o6,o7]/\M'[M.length]?=some (.lst ((tr f s (ds.take i)).map Ah))/\Ex M M') (by rintro i ρ M' ⟨_,_,_,_,_,_,fr⟩;exact Ex.get fr h) h0 (λi ρ M' d h k=>step i ρ M' d _ h k) last (D2 (aG h))
  | t=>exact Mb (ds:=ts.map dS) (λi ρ M'=>∃o5 o6 o7,i<=ds.length/\ρ=[some (da f),some (cA s),some (.tup (ts.map dS)),some (.aw M.length),some (cA (fin f s (ds.take i))),o5,o6,o7]/\M'[M.length]?=some (.lst ((tr f s (ds.take i)).map Ah))/\Ex M M') h0 (λi ρ M' d h k=>step i ρ M' d _ h k) last
theorem aH.er{α:Type}{e1 e2:vX->ag->Prop}{o:bS α}{P Q:α->ag->Prop}(h:@aH ⟨e1⟩ α o P)(k:∀x M,e1 x M->e2 x M)(l:∀a M,P a M->Q a M):@aH ⟨e2⟩ α o Q:=by
 cases o with
 | ok a M=>rw[@aN ⟨e1⟩]at h;rw[@aN ⟨e2⟩];exact l a M h
 | err x M=>rw[@dt ⟨e1⟩]at h;rw[@dt ⟨e2⟩];exact k x M h
 | af=>rw[@az ⟨e1⟩]at h;exact h.elim
def Na(C:Addr)(F:Fn):Prop:=∀(M:ag)(f:Fm)(N:Nat)(s:Sd)(ts:List Tg)(x:D),bV f->bz f N s->N+3*ts.length<=880->(∀t∈ts,l0 f t)->lL M (ts.map dS) x ->
 @aH ⟨λy M'=>(fz f s ts).length<ts.length/\y=MX C (fz f s ts).length/\Ex M M'⟩ W (F [da f,cA s,x] M) λr M'=>(fz f s ts).length=ts.length/\∃n',r=.d (.tup [cA (fin f s (fz f s ts)),.aw n'])/\M.length<=n'/\M'[n']?=some (.lst ((mF f s (fz f s ts)).map wD))/\Ex M M'
theorem Wb{G:a_}{ly:Nat}{C:Addr}(hS:xo C (G ly)):Na C (ah G 7 (Hy ly)):=by
 intro M f N s ts x hf hs hN ht hx;have hS:=hS (M++[.lst []]) f N s ts x hf hs hN ht (hx.ex (Ex.refl M).app);have jM:=kz (f:=f) (s:=s) (ts:=ts);have hr:=ku (s:=s) ht;generalize fz f s ts=ds at hS jM hr⊢
 letI:Er:=⟨λy M'=>ds.length<ts.length/\y=MX C ds.length/\Ex M M'⟩
 show aH (ah G 7 (Hy ly) [da f,cA s,x] M) _;rw[bf];show du G (Hy ly) [some (da f),some (cA s),some x,none,none,none,none] M _ _ _ _;nofun;refine⟨s0,?_⟩;nofun;refine hS.er (λy M' ⟨a,b,c⟩=>⟨a,b,Ex.trans (Ex.refl M).app c⟩) λr M2 ⟨hk,n2,e,As,je,f2⟩=>?_;subst e;have lZ:M2[M.length]?=some (.lst []):=Ex.get f2 av;have vd:Ex M M2:=Ex.trans ((Ex.refl M).app) f2;have aJ:(M++[MO.lst []]).length=M.length+1:=by simp
 rw[aJ]at As;nofun;rw[fu je];refine Ma (n:=n2) (ds:=(tr f s ds).map Ah) (λi ρ M'=>∃o5 o6,ρ=[some (da f),some (cA s),some x,some (cA (fin f s (ds.take i))),some (.aw M.length),o5,o6]/\M'[n2]?=some (.lst ((tr f s ds).map Ah))/\M'[M.length]?=some (.lst ((((tr f s ds).take i).filterMap RC).map wD))/\Ex M M') (by rintro i ρ M' ⟨_,_,_,h,_⟩;exact h) ⟨_,_,rfl,je,lZ,vd⟩ ?_ ?_
 ·rintro i ρ M' dd jy ⟨o5,o6,rfl,vD,Ac,fr⟩;rw[c_]at jy
  cases e:(tr f s ds)[i]? with
  | none=>rw[e]at jy;cases jy
  | some x =>
   rw[e]at jy;cases jy;have hx:=IY e;have hi:=(bG.mp e).1;rw[lz]at hi;have Eh:=cM e;obtain⟨t,m,w⟩:=x;have hx:t=fin f s (ds.take (i+1)):=hx;subst hx
   cases w with
   | none =>
    nofun;refine⟨_,_,rfl,vD,?_,fr⟩;rw[Eh,EG];show M'[M.length]?=some (.lst (((((tr f s ds).take i).filterMap RC)++[]).map wD));rw[oK];exact Ac
   | some w =>
    nofun;refine⟨cK Ac,?_⟩;nofun;rw[dr Ac (bq (by rw[aB];exact bJ (EC _ _) (by rw[dg];omega)))];refine⟨_,_,rfl,bh vD ∅,?_,Fr.set fr (aE _)⟩;rw[bC Ac,Eh,EG,gy];rfl
 ·rintro ρ M' ⟨o5,o6,rfl,vD,Ac,fr⟩;rw[aB,jE]at Ac;rw[aB,lz,jE];nofun;exact⟨s2,hk,_,rfl,aE _,Ac,fr⟩
def D5(F:Fn):Prop:=∀(M:ag)(f:Fm)(N:Nat)(s:Sd)(ts:List Tg)(x:D),bV f->bz f N s->N+3*ts.length<=880->(∀t∈ts,l0 f t)->lL M (ts.map dS) x ->
 aH (F [da f,cA s,x] M) λr M'=>Ex M M'/\(((fz f s ts).length=ts.length/\∃n',r=.d (.tup [cA (fin f s (fz f s ts)),.aw n'])/\M.length<=n'/\M'[n']?=some (.lst ((mF f s (fz f s ts)).map wD)))\/((fz f s ts).length<ts.length/\r=.d (.tup [.str "no",.int (fz f s ts).length])))
theorem D6{F:Fn}{C:Addr}(hR:Na C F):D5 (kc C "number" F):=by
 intro M f N s ts x hf hs hN ht hx;have h:=hR M f N s ts x hf hs hN ht hx
 cases e:F [da f,cA s,x] M with
 | af=>rw[e,@az ⟨_⟩]at h;exact h.elim
 | ok r M1 =>
  rw[e,@aN ⟨_⟩]at h;obtain⟨hk,n',rfl,hl,hn,f1⟩:=h;exact nM (a:=.d _) (M:=M1) (by unfold kc;rw[e];rfl) ⟨f1,.inl ⟨hk,n',rfl,hl,hn⟩⟩
 | err y M1 =>
  rw[e,@dt ⟨_⟩]at h;obtain⟨hk,rfl,f1⟩:=h;exact nM (a:=.d _) (M:=M1) (by unfold kc;rw[e];exact aF rfl) ⟨f1,.inr ⟨hk,rfl⟩⟩
theorem mG{a b:Dn}(h:dw a=dw b):a=b:=by
 cases a<;>cases b<;>simp only[dw,D.tup.injEq,List.cons.injEq,D.str.injEq,D.int.injEq,and_true,true_and]at h
 ·obtain rfl:=Int.ofNat.inj h;rfl
 ·exact absurd h.1 ⋯
 ·exact absurd h.1 ⋯
 ·exact absurd h.1 ⋯
 ·obtain⟨h,rfl⟩:=h;obtain rfl:=Int.ofNat.inj h;rfl
 ·exact absurd h.1 ⋯
 ·exact absurd h.1 ⋯
 ·exact absurd h.1 ⋯
 ·obtain⟨h,rfl⟩:=h;obtain rfl:=Int.ofNat.inj h;rfl
theorem Nb{f:Fm}{M:ag}{d:Dn}(hb:vf f M (dw d))(hd:cX f d):False:=by
 generalize e:dw d=t at hb
 cases hb with
 | aL=>cases d<;>cases e
 | int i=>cases d<;>cases e
 | str i=>cases d<;>cases e
 | emp=>cases d<;>cases e
 | aw n ds h=>cases d<;>cases e
 | keep x=>cases d<;>simp[dw]at e<;>exact absurd e.1 ⋯
 | XN=>cases d<;>simp[dw]at e
 | XQ=>obtain rfl:=mG (b:=.own f.ru.length) e;exact absurd (show f.ru.length<f.ru.length from hd) (jF _)
 | aa =>
  obtain rfl:=mG (b:=.dE 0 "aa") e;rcases(show _/\dO "aa" from hd).2 with z | z | z | z<;>exact absurd z ⋯
 | off k=>obtain rfl:=mG (b:=.bE f.ro.length k) e;exact absurd (show f.ro.length<f.ro.length from hd) (jF _)
 | note x y=>cases d<;>simp[dw]at e<;>exact absurd e.1 ⋯
theorem HC{f:Fm}{s:Sd}{M:ag}{d:Dn}{x:Int×List (Int×Str)×Option Str}(hd:cX f d)(hx:rp f s d=some x)(hn:Not f s M (dw d)):False:=by
 rcases hn with z | ⟨d',e,_,z⟩
 ·exact Nb z hd
 ·rw[<- mG e,hx]at z;cases z
theorem uR{a b c:Int}(h1:a<=b)(h2:b<=c):gU a b++gU b c=gU a c:=by
 obtain⟨n,hn⟩:∃n:Nat,b=a+n:=⟨(b-a).toNat,∅⟩;subst hn;clear h1
 induction n generalizing a with
 | zero=>rw[show a+((0:Nat):Int)=a by omega,kr (oM _)];rfl
 | succ n ih =>
  have e:a+((n+1:Nat):Int)=a+1+(n:Int):=∅;rw[e]at h2⊢;rw[gr (a:=a) (b:=a+1+n) ∅,gr (a:=a) (b:=c) ∅,List.cons_append,ih h2]
theorem D7{a:Int}:gU a (a+1)=[a]:=by rw[gr ∅,kr ∅]
theorem uS{α:Type}{l:List α}{i j:Nat}{x d:α}(h:i<l.length):(l.set i x).getD j d=if i=j then x else l.getD j d:=by
 rw[jB,jB,List.getElem?_set];by_cases q:i=j
 ·rw[aF q,aF q,aF ∅];rfl
 ·rw[aP q,aP q]
theorem qf:∀(sd:List (Int×Str))(ld:List (Int×List (Int×Str)))(r:Nat),(∀p∈sd,0<=p.1/\p.1.toNat<ld.length)->(ld.getD r (0,[])).1<=((dc ld sd).getD r (0,[])).1/\gV ((dc ld sd).getD r (0,[]))=gV (ld.getD r (0,[]))++gU (ld.getD r (0,[])).1 ((dc ld sd).getD r (0,[])).1/\(dc ld sd).length=ld.length
 | [],ld,r,_=>⟨oM _,by rw[show dc ld []=ld from rfl,kr (oM _),oK],rfl⟩
 | p::sd,ld,r,h=>by
  have hp:=h p (ez ..);have hl:(ld.set p.1.toNat (more (ld.getD p.1.toNat (0,[])) p.2)).length=ld.length:=ja;obtain⟨i1,i2,i3⟩:=qf sd (ld.set p.1.toNat (more (ld.getD p.1.toNat (0,[])) p.2)) r λq hq=>by rw[hl];exact h q (dP _ hq)
  have e:dc ld (p::sd)=dc (ld.set p.1.toNat (more (ld.getD p.1.toNat (0,[])) p.2)) sd:=rfl;rw[e,i2,i3];rw[uS hp.2]at i1⊢;by_cases q:p.1.toNat=r
  ·rw[aF q]at i1⊢;subst q;have hm:(more (ld.getD p.1.toNat (0,[])) p.2).1=(ld.getD p.1.toNat (0,[])).1+1:=rfl;have hn:gV (more (ld.getD p.1.toNat (0,[])) p.2)=gV (ld.getD p.1.toNat (0,[]))++[(ld.getD p.1.toNat (0,[])).1]:=by unfold gV more;rw[gy];rfl
   rw[hm]at i1⊢;rw[hn];refine⟨∅,?_,hl⟩;have e2:=uR (a:=(ld.getD p.1.toNat (0,[])).1) (b:=(ld.getD p.1.toNat (0,[])).1+1) ∅ i1;rw[D7]at e2;rw[yU,e2]
  ·rw[aP q]at i1⊢;exact⟨i1,rfl,hl⟩
def IZ(s:Sd)(d:Dn)(r:Nat):Int×List (Int×Str):=match d with
 | .bE q k=>if q=r then less (load s r) k else load s r
 | _=>load s r
theorem Nc{f:Fm}{N:Nat}{s:Sd}{d:Dn}(hs:bz f N s)(hd:cX f d)(r:Nat):(iw s.ld d).getD r (0,[])=IZ s d r/\(iw s.ld d).length=s.ld.length:=by
 cases d with
 | own m=>exact⟨rfl,rfl⟩
 | dE m c=>exact⟨rfl,rfl⟩
 | bE q k =>
  have hq:q<s.ld.length:=by rw[hs.ll];exact hd
  refine⟨?_,ja⟩;show(s.ld.set q (less (s.ld.getD q (0,[])) k)).getD r (0,[])=_;rw[uS hq];show _=if q=r then less (load s r) k else load s r
  by_cases z:q=r
  ·subst z;rw[aF rfl,aF rfl];rfl
  ·rw[aP z,aP z];rfl
theorem D8{f:Fm}(hf:bV f){N:Nat}{s:Sd}{d:Dn}(hs:bz f N s)(hd:cX f d)(hc:cn f s d=true)(r:Nat):(load s r).1<=(load (d9 f s d) r).1/\gV (load (d9 f s d) r)=gV (IZ s d r)++gU (load s r).1 (load (d9 f s d) r).1:=by
 have ax:=uJ hf hs hd (oC hc);obtain⟨e1,e2⟩:=Nc hs hd r
 have hb:∀p∈(AE f s d).2.1,0<=p.1/\p.1.toNat<(iw s.ld d).length:=λp hp=>by
  obtain⟨_,h2,x,h3,_⟩:=ax.sd p hp;refine⟨h2,?_⟩;rw[e2,hs.ll];exact(bG.mp h3).1
 obtain⟨i1,i2,_⟩:=qf (AE f s d).2.1 (iw s.ld d) r hb
 have h1:(IZ s d r).1=(load s r).1:=by
  cases d with
  | own m=>rfl
  | dE m c=>rfl
  | bE q k =>
   show(if q=r then less (load s r) k else load s r).1=_;split<;>rfl
 rw[e1,h1]at i1 i2;exact⟨i1,i2⟩
theorem kA{k:Int}:∀{ps:List (Int×Str)},(ps.Pairwise λp q=>p.1<q.1)->(ps.filter λp=>!(p.1==k)).map (·.1)=(ps.map (·.1)).erase k
 | [],_=>rfl
 | p::ps,h=>by
  rw[AK]at h;rw[eJ,List.erase_cons,AQ]
  cases q:(p.1==k)with
  | true =>
   rw[aP (by simp),aF rfl];have e:p.1=k:=eq_of_beq q
   rw[List.filter_eq_self.mpr λx hx=>by
    have:=h.1 x hx;have mZ:(x.1==k)=false:=oJ.mpr ∅;rw[mZ];rfl]
  | false =>
   rw[aF (by simp),aP (by simp),eJ,kA h.2]
theorem uT{f:Fm}{s:Sd}{r:Nat}{k:Int}(hc:cn f s (.bE r k)=true):k∈gV (load s r)/\(((cu f r).2.2 == "row")=true->(load s r).2.head?.map (·.1)=some k):=by
 unfold cn rp at hc
 cases q:cs f s (.bE r k)with
 | none=>rw[q]at hc;exact absurd hc aY
 | some c =>
  have q:((iu (cu f r).2.2 (load s r).2).find? λp=>p.1==k).map (·.2)=some c:=q
  cases z:(iu (cu f r).2.2 (load s r).2).find? λp=>p.1==k with
  | none=>rw[z]at q;cases q
  | some p =>
   have hm:=EB z;have hk:p.1=k:=eq_of_beq (show(p.1==k)=true from List.find?_some (p:=λp:Int×Str=>p.1==k) z);refine⟨?_,λho=>?_⟩
   ·unfold iu at hm;refine fK.mpr ⟨p,?_,hk⟩;split at hm
    ·exact jC hm
    ·exact hm
   ·unfold iu at hm;rw[aF ho]at hm
    cases hl:(load s r).2 with
    | nil=>rw[hl]at hm;cases hm
    | cons a l =>
     rw[hl]at hm;have:p=a:=by simpa using hm
     rw[<- this];simp[hk]
theorem Tl.d9{f:Fm}(hf:bV f){N:Nat}{s:Sd}{d:Dn}(hs:bz f N s)(ht:Tl f s)(hd:cX f d)(hc:cn f s d=true):Tl f (d9 f s d):=by
 intro r hr ho;obtain⟨h1,h2⟩:=D8 hf hs hd hc r;have t:=ht r hr ho;have IQ:∀l:Int×List (Int×Str),(gV l).length=l.2.length:=λl=>aB _;have hup:∀a b:Int,a<=b->(gU a b).length=(b-a).toNat:=λa b _=>by unfold gU;simp
 have pF:gV (IZ s d r)=gU ((load s r).1-((IZ s d r).2.length:Int)) (load s r).1:=by
  cases d with
  | own m=>exact t
  | dE m c=>exact t
  | bE q k =>
   by_cases z:q=r
   ·subst z
    have Wc:((cu f q).2.2 == "row")=true:=by
     rcases(hf.rd hr).2.k with e | e
     ·rw[e];decide +kernel
     ·rw[e]at ho;exact absurd ho ⋯
    obtain⟨_,hh⟩:=uT hc;have hh:=hh Wc;have el:IZ s (.bE q k) q=less (load s q) k:=aF rfl;rw[el];have e3:gV (less (load s q) k)=(gV (load s q)).erase k:=kA (hs.Hl hr).2.r;have aJ:(less (load s q) k).2.length=((gV (load s q)).erase k).length:=by rw[<- e3,IQ]
    have t:gV (load s q)=gU ((load s q).1-((load s q).2.length:Int)) (load s q).1:=t
    cases hl:(load s q).2 with
    | nil=>rw[hl]at hh;cases hh
    | cons a l =>
     rw[hl]at hh;have hak:a.1=k:=by simpa using hh
     have hn:gV (load s q)=k::l.map (·.1):=by unfold gV;rw[hl,eJ,hak]
     rw[hn,List.erase_cons_head]at e3 aJ;rw[aJ,aB,e3];rw[hn,hl,fJ]at t;rw[gr ∅]at t;have:=(List.cons.inj t).2;rw[this]
     congr 1
     omega
   ·have el:IZ s (.bE q k) r=load s r:=aP z;rw[el];exact t
 show gV (load (Ev.d9 f s d) r)=_
 have RG:((load (Ev.d9 f s d) r).2.length:Int)=((IZ s d r).2.length:Int)+((load (Ev.d9 f s d) r).1-(load s r).1):=by
  have:=oN List.length h2;rw[dz,IQ,IQ,hup _ _ h1]at this;omega
 rw[h2,pF,uR ∅ h1,RG]
 congr 1
 omega
theorem HD(i:Int):PyData.strOk (Str.ofString (toString i))=true:=by
 unfold PyData.strOk;rw[Array.all_eq_true'];intro c hc;refine fX ?_;refine Classical.byContradiction λh=>?_;exact int_text_free' c ⟨∅,∅⟩ i (by simpa using hc)
theorem su{i:Int}(h0:0<=i)(h1:i<10 ^ 12):Sm 14 0 (.int i):=by
 have hn:i.natAbs<10 ^ 12:=∅
 have Wd:i.natAbs.log2<1920:=by
  by_cases h0:i.natAbs=0
  ·rw[h0];decide
  ·exact(Nat.log2_lt h0).mpr (fH hn (by decide))
 refine⟨.int i,λM n _=>by cases n<;>(unfold cB;rfl),sM i,?_,vB (sP i),?_⟩
 ·rw[PyData.showable.eq_4];exact fX Wd
 ·rw[PyData.shown.eq_3];refine⟨?_,HD i⟩;have:=int_text_length_le10 (a:=i) (k:=12) (by decide) hn;rw[PySem.ofString_length];omega
theorem xq{c:Str}(h:dO c):Sm 14 0 (.str c):=by
 rcases h with rfl | rfl | rfl | rfl<;>exact Sm.str ⋯ ⟨⋯,⋯⟩
theorem RH{c:Str}(h:Aa (some c)):Sm 14 0 (.str c):=by
 rcases h c rfl with rfl | rfl | rfl | rfl | rfl<;>exact Sm.str ⋯ ⟨⋯,⋯⟩
theorem e5{P:D->Prop}{a b:D}(ha:P a)(hb:P b):∀d∈[a,b],P d:=λd hd=>by
 simp only[bT,fW,fb]at hd;rcases hd with rfl | rfl<;>assumption
theorem RI{N:Nat}{l:Int×List (Int×Str)}(h:fV N l)(hN:N<=200):Sm 14813 3 (lK l):=by
 have hs:=h.s;have hn:=h.n
 have h1:Sm 7403 2 (.tup (l.2.map pD)):=by
  refine(Sm.tup (b:=35) (h:=1) (k:=200) (λd hd=>?_) (by rw[aB];omega)).mono (by decide) (by decide);obtain⟨p,hp,rfl⟩:=fK.mp hd;obtain⟨k1,k2,k3⟩:=h.p p hp;exact(Sm.tup (b:=14) (h:=0) (k:=2) (e5 (su k2 ∅) (xq k1)) (aE 2)).mono (by decide) (by decide)
 exact(Sm.tup (b:=7403) (h:=2) (k:=2) (e5 ((su hs.1 ∅).mono (by decide) (by decide)) h1) (aE 2)).mono (by decide) (by decide)
theorem RJ{f:Fm}(hf:bV f){N:Nat}{s:Sd}(h:bz f N s)(hN:N<=200):Sm 237053 5 (cA s):=by
 have h4:=hf.l4;have h8:=hf.l8
 have h1:Sm 19 1 (.tup (s.st.map D.int)):=by
  refine Sm.tup (b:=2) (h:=0) (k:=4) (λd hd=>?_) (by rw[aB,h.ls];exact h4);obtain⟨i,hi,rfl⟩:=fK.mp hd;exact Sm.int (h.st i hi).1 (h.st i hi).2
 have h2:Sm 118523 4 (.tup (s.ld.map lK)):=by
  refine Sm.tup (b:=14813) (h:=3) (k:=8) (λd hd=>?_) (by rw[aB,h.ll];exact h8);obtain⟨l,hl,rfl⟩:=fK.mp hd;exact RI (h.ld l hl) hN
 exact Sm.tup (b:=118523) (h:=4) (k:=2) (e5 (h1.mono (by decide) (by decide)) h2) (aE 2)
theorem HE{d:D}{ws:List (Nat×Str)}(q:Sm 237053 5 d)(hw:∀p∈ws,p.1<100/\Aa (some p.2))(hl:ws.length<=100):∃x,PyData.strOk x=true/\∀M n,M[n]?=some (.lst (ws.map wD))->iL .fC [.d (.tup [d,.aw n])] M=.ok (.d (.str x)) M:=by
 obtain⟨p,e,q⟩:=q
 obtain⟨ps,es,a,l⟩:=Sm.ds (b:=35) (h:=1) (ds:=ws.map wD) λd hd=>by
  obtain⟨p,hp,rfl⟩:=fK.mp hd;obtain⟨k1,k2⟩:=hw p hp;exact(Sm.tup (b:=14) (h:=0) (k:=2) (e5 ((Sm.int (i:=(p.1:Int)) ∅ ∅).mono (by decide) (by decide)) (RH k2)) (aE 2)).mono (by decide) (by decide)
 rw[aB]at l;have hL:=o_.list (k:=100) a ∅
 have hT:o_ 474113 6 (.tuple [p,.list ps]):=by
  have:=o_.tup (b:=237053) (h:=5) (k:=2) (ps:=[p,.list ps]) (λx hx=>by
   simp only[bT,fW,fb]at hx;rcases hx with rfl | rfl
   ·exact q
   ·exact⟨hL.1,hL.2.1,bJ hL.2.2.1 (by decide),hL.2.2.2.mono (by decide)⟩) (aE 2)
  exact this
 obtain⟨q1,q2,q3,q4,q5⟩:=hT;refine⟨(PyData.tuple [p,.list ps]).shown,q5,λM n hM=>?_⟩;have h1:cB M 29 d=some p:=e M 29 (by decide)
 have h2:cB M 29 (.aw n)=some (.list ps):=by
  unfold cB;simp only[hM];rw[es M 28 (by decide)];rfl
 have:gS M (.d (.tup [d,.aw n]))=some (.tuple [p,.list ps]):=by
  show cB M 30 (.tup [d,.aw n])=_;unfold cB;rw[show bp M 29 [d,.aw n]=some [p,.list ps] by unfold bp;rw[h1];unfold bp;rw[h2];unfold bp;rfl];rfl
 unfold iL;simp only[this];rw[aF ⟨q2,∅,bJ q4 (by decide)⟩]
theorem D9{M:ag}{n:Nat}{xs ys:List D}(h:M[n]?=some (.lst xs))(hl:xs.length+ys.length<=sizeLine):kU .add (.d (.aw n)) (.lv ys) M=.ok (.lv (xs++ys)) M:=by
 unfold kU;simp only[fi,h];rw[aF hl]
end Ev
end
section
namespace dB
open Ev PySem
abbrev Fu:=List D->ag->bS W
abbrev c0(l:List Fu):=l
def n0:List Str:=["thing"]
def b0:List S:=nZ
def f0:Fu:=ah (cz (c0 [])) 1 b0
abbrev c1(l:List Fu):=c0 (f0::l)
def n1:List Str:=["thing","bound"]
def b1:List S:=lq 0
def f1:Fu:=ah (cz (c1 [])) 2 b1
abbrev c2(l:List Fu):=c1 (f1::l)
def n2:List Str:=["thing"]
def b2:List S:=uF
def f2:Fu:=ah (cz (c2 [])) 1 b2
abbrev c3(l:List Fu):=c2 (f2::l)
def n3:List Str:=["form","m","state","cause","move"]
def b3:List S:=rK
def f3:Fu:=ah (cz (c3 [])) 5 b3
abbrev c4(l:List Fu):=c3 (f3::l)
def n4:List Str:=["stand","road"]
def b4:List S:=wM
def f4:Fu:=ah (cz (c4 [])) 2 b4
abbrev c5(l:List Fu):=c4 (f4::l)
def n5:List Str:=["form","thing"]
def b5:List S:=n_ 1 2 0
def f5:Fu:=ah (cz (c5 [])) 2 b5
abbrev c6(l:List Fu):=c5 (f5::l)
def n6:List Str:=["form","deed"]
def b6:List S:=DA
def f6:Fu:=ah (cz (c6 [])) 2 b6
abbrev c7(l:List Fu):=c6 (f6::l)
def n7:List Str:=["form","stand","road","waiting"]
def b7:List S:=Mo 4
def f7:Fu:=ah (cz (c7 [])) 4 b7
abbrev c8(l:List Fu):=c7 (f7::l)
def n8:List Str:=["form","stand","thing"]
def b8:List S:=DB 5 3 7
def f8:Fu:=ah (cz (c8 [])) 3 b8
abbrev c9(l:List Fu):=c8 (f8::l)
def n9:List Str:=["stand","deed"]
def b9:List S:=wN 4
def f9:Fu:=ah (cz (c9 [])) 2 b9
abbrev S2(l:List Fu):=c9 (f9::l)
def n10:List Str:=["letters","k"]
def XU:List S:=DC
def Nd:Fu:=ah (cz (S2 [])) 2 XU
abbrev S3(l:List Fu):=S2 (Nd::l)
def n11:List Str:=["letters","sign"]
def XW:List S:=DD
def f11:Fu:=ah (cz (S3 [])) 2 XW
abbrev S4(l:List Fu):=S3 (f11::l)
noncomputable def n12:List Str:=["form","stand","deed","m","reply","states","roads","road","sign","told"]
def XX:List S:=DE 6 3 9 10 11
def vd:Fu:=ah (cz (S4 [])) 10 XX
abbrev S5(l:List Fu):=S4 (vd::l)
noncomputable def n13:List Str:=["form","stand","deeds","behind","now","number","deed","step"]
noncomputable def XY:List S:=[.asg [3] (.lst []),.asg [4] 1,.dD [5,6] .enum [2] [.iff (.neg (.val (.call 8 [0,4,6]))) [.Ay 63 "number" 5] [],.asg [7] (.call 12 [0,4,6]),.asg [4] (.ks 7 0),.expr (.me .append 3 [7])],.ret 3]
def f13:Fu:=ah (cz (S5 [])) 8 XY
abbrev S6(l:List Fu):=S5 (f13::l)
noncomputable def n14:List Str:=["form","stand","deeds","now","words","behind","told"]
def XZ:List S:=Hy 13
def We:Fu:=ah (cz (S6 [])) 7 XZ
abbrev S7(l:List Fu):=S6 (We::l)
def n15:List Str:=["_law_script","_law_k","_law_cell"]
def X2:List S:=Dk
def f15:Fu:=ah (cz (S7 [])) 3 X2
abbrev S8(l:List Fu):=S7 (f15::l)
noncomputable def n16:List Str:=["_law_well_here","_law_many","_law_turn","_law_left","_law_here","_law_mixed"]
def X3:List S:=yu
def f16:Fu:=ah (cz (S8 [])) 6 X3
abbrev S9(l:List Fu):=S8 (f16::l)
noncomputable def n17:List Str:=["_law_well_here","_law_machines","_law_roads_here","_law_many","_law_k","_law_one","_law_other"]
def X4:List S:=wC 16
def f17:Fu:=ah (cz (S9 [])) 7 X4
abbrev S_(l:List Fu):=S9 (f17::l)
noncomputable def n18:List Str:=["_law_well_here","_law_some","_law_many","_law_k","_law_state"]
def X5:List S:=rL 16
def f18:Fu:=ah (cz (S_ [])) 5 X5
abbrev Ta(l:List Fu):=S_ (f18::l)
noncomputable def n19:List Str:=["_law_well_here","_law_ways","_law_sends_here","_law_k","_law_road"]
def X6:List S:=wF 16
def f19:Fu:=ah (cz (Ta [])) 5 X6
abbrev Tc(l:List Fu):=Ta (f19::l)
noncomputable def n20:List Str:=["_law_well_here","_law_some","_law_ways","_law_words","_law_moves_here","_law_state","_law_cause","_law_after","_law_sends_here","_law_word","_law_at"]
def X7:List S:=wG 16 19
def f20:Fu:=ah (cz (Tc [])) 11 X7
abbrev Td(l:List Fu):=Tc (f20::l)
noncomputable def n21:List Str:=["_law_script","_law_well_here","_law_machines","_law_roads_here","_law_rules","_law_m","_law_some","_law_ways","_law_start"]
def X8:List S:=yv 15 16 17 18 20
def f21:Fu:=ah (cz (Td [])) 9 X8
abbrev Te(l:List Fu):=Td (f21::l)
noncomputable def n22:List Str:=["_law_form_here","_law_m","_law_state","_law_cause","_law_told_here"]
def X9:List S:=rM
def f22:Fu:=ah (cz (Te [])) 5 X9
abbrev Tf(l:List Fu):=Te (f22::l)
noncomputable def n23:List Str:=["_law_form_here","_law_stand_here","_law_found","_law_road","_law_waiting"]
def X_:List S:=rP
def f23:Fu:=ah (cz (Tf [])) 5 X_
abbrev Th(l:List Fu):=Tf (f23::l)
noncomputable def n24:List Str:=["_law_form_here","_law_stand_here","_law_deed","_law_m","_law_road","_law_number","_law_sign"]
def Yb:List S:=wQ 22 23
def f24:Fu:=ah (cz (Th [])) 7 Yb
abbrev Ti(l:List Fu):=Th (f24::l)
def n25:List Str:=["_law_form_here","_law_deed"]
def Yc:List S:=wR
def f25:Fu:=ah (cz (Ti [])) 2 Yc
abbrev Tj(l:List Fu):=Ti (f25::l)
noncomputable def n26:List Str:=["_law_form_here","_law_stand_here","_law_deed","_law_after","_law_sends_here","_law_word","_law_m","_law_states_here","_law_load_here","_law_loads","_law_road","_law_sign","_law_roads_here"]
def Yd:List S:=wU 24 25
def f26:Fu:=ah (cz (Tj [])) 13 Yd
abbrev Tn(l:List Fu):=Tj (f26::l)
noncomputable def n27:List Str:=["_law_well_here","_law_order","_law_some","_law_sent","_law_waiting","_law_least","_law_k"]
def Ye:List S:=wV 16
def f27:Fu:=ah (cz (Tn [])) 7 Ye
abbrev To(l:List Fu):=Tn (f27::l)
noncomputable def n28:List Str:=["_law_script","_law_form_here","_law_well_here","_law_loads","_law_states_here"]
def Yg:List S:=rQ 15 16 27
def f28:Fu:=ah (cz (To [])) 5 Yg
abbrev Tp(l:List Fu):=To (f28::l)
noncomputable def n29:List Str:=["_law_well_here","_law_form_here","_law_stand_here","_law_some","_law_owns","_law_m","_law_way"]
def Yh:List S:=rR 23 24 16
def f29:Fu:=ah (cz (Tp [])) 7 Yh
abbrev Tq(l:List Fu):=Tp (f29::l)
noncomputable def n30:List Str:=["_law_script","_law_form_here","_law_stand_here","_law_most","_law_well_here","_law_deeds_here","_law_many","_law_k","_law_deed"]
def Yi:List S:=sg 15 16 29 26
def f30:Fu:=ah (cz (Tq [])) 9 Yi
abbrev Wf(l:List Fu):=Tq (f30::l)
def Yj:Fu:=kc 63 "number" We
abbrev Tr(l:List Fu):=Wf (Yj::l)
noncomputable def n32:List Str:=["_law_form_here","_law_stand_here","_law_deeds_here","_law_words","_law_k","_law_word"]
def Ts:List S:=[.asg [3] (.lst []),.dD [4] .fT [(.bi .len [2])] [.iff (.gj [(.neg (.val (.bi (.pL .tuple) [(.sub 2 4)]))),(.val (.cmp .cT (.sub (.sub 2 4) (.kn 0)) (.tup [(.bb (.str "own")),(.bb (.str "hear")),(.bb (.str "come"))])))]) [.ret (.tup [(.bb (.str "no")),4])] [],.iff (.val (.cmp .qT (.call 24 [0,1,(.sub 2 4)]) (.bb .aL))) [.ret (.tup [(.bb (.str "no")),4])] [],.asg [1,5] (.call 26 [0,1,(.sub 2 4)]),.asg [3] (.bin .add 3 (.bin .mul (.lst [5]) (.bi .qU [(.cmp .fy 5 (.bb .aL))])))],.ret (.tup [1,3])]
def f32:Fu:=ah (cz (Tr [])) 6 Ts
abbrev Tt(l:List Fu):=Tr (f32::l)
noncomputable def n33:List Str:=["_law_form_here","_law_stand_here","_law_deeds_here","_law_handed","_law_due_here","_law_told_here"]
noncomputable def Tu:List S:=[.asg [3] (.bi .list1 [2]),.asg [4] (.call 32 [0,1,2]),.asg [5] (.call 31 [0,1,3]),.iff (.gj [(.val (.cmp .ne (.bi .fC [5]) (.bi .fC [4]))),(.val (.cmp .ne (.bi .fC [3]) (.bi .fC [(.bi .list1 [2])])))]) [.ret (.bb (.bl false))] [],.iff (.val (.cmp .ne (.ks 4 0) (.bb (.str "no")))) [.expr (.me .append (.ks 5 1) [(.tup [(.kn 0),(.bb (.str "odd"))])])] [],.ret (.cmp .eq (.bi .fC [(.call 31 [0,1,(.bi .tuple1 [2])])]) (.bi .fC [4]))]
def f33:Fu:=ah (cz (Tt [])) 6 Tu
abbrev Tv(l:List Fu):=Tt (f33::l)
noncomputable def n34:List Str:=["_law_well_here","_law_deeds_here","_law_at","_law_odd","_law_way","_law_one","_law_pair"]
def Tw:List S:=[.asg [2] (.call 16 [0,(.bin .add (.bi .len [1]) (.kn 1))]),.asg [3] (.lst [(.tup [(.bb (.str "own")),(.kn 0)]),(.bb .aL),(.kn 7),(.tup [(.bb (.str "keep")),(.kn 0)]),(.tup [(.bb (.str "note")),(.kn 0),(.kn 0)]),(.tup [(.bb (.str "come")),(.kn 0),(.bin .pow (.kn 10) (.kn 9))]),(.tup [(.bb (.str "hear")),(.kn 0),(.bb (.str "b"))]),(.bb (.str "own"))]),.asg [4] (.call 16 [0,(.kn 6)]),.iff (.val (.cmp .lt 4 (.kn 2))) [.asg [5] (.sub (.lst [(.sub 3 (.call 16 [0,(.kn 8)])),(.tup [(.bb (.str "hear")),(.kn 0),(.bb (.str "b"))])]) 4),.ret (.bin .add (.bin .add (.jz 1 none (some 2)) (.lst [5])) (.jz 1 (some 2) none))] [],.iff (.val (.cmp .eq 4 (.kn 2))) [.ret (.bin .add (.jz 1 none (some 2)) (.jz 1 (some (.bi .max2 [(.kn 0),(.bin .sub 2 (.kn 1))])) none))] [],.iff (.val (.cmp .eq 4 (.kn 3))) [.ret (.bin .add (.jz 1 none (some 2)) (.jz 1 (some (.bin .add 2 (.kn 1))) none))] [],.asg [6] (.bin .add (.jz 1 (some (.bin .add 2 (.kn 1))) (some (.bin .add 2 (.kn 2)))) (.jz 1 (some 2) (some (.bin .add 2 (.kn 1))))),.ret (.bin .add (.bin .add (.jz 1 none (some 2)) 6) (.jz 1 (some (.bin .add 2 (.kn 2))) none))]
def f34:Fu:=ah (cz (Tv [])) 7 Tw
abbrev Tz(l:List Fu):=Tv (f34::l)
noncomputable def n35:List Str:=["_law_script","_law_form_here","_law_stand_here","_law_deeds_here","_law_k","_law_well_here","_law_bent_here"]
def TB:List S:=[.asg [1] (.call 21 [0]),.asg [2] (.call 28 [0,1]),.asg [3] (.call 30 [0,1,2,(.kn 60)]),.iff (.gj [(.neg (.val (.call 33 [1,2,3]))),(.neg (.val (.call 33 [1,2,(.lst [])])))]) [.ret (.bb (.bl false))] [],.dD [4] .fT [(.kn 8)] [.asg [5] (.call 15 [0,(.bin .add (.kn 6) (.bin .mul (.kn 3) 4))]),.asg [6] (.call 34 [5,3]),.iff (.eC [(.val (.cmp .eq (.bi .len [(.ks 1 1)]) (.kn 0))),(.val (.cmp .isin (.tup [(.bb (.str "come")),(.kn 0),(.bin .pow (.kn 10) (.kn 9))]) 6))]) [.jt 6 (.comp .seq [6] [1] (some (.val (.cmp .ne 1 (.tup [(.bb (.str "come")),(.kn 0),(.bin .pow (.kn 10) (.kn 9))])))) 1 [none,none])] [],.iff (.neg (.val (.call 33 [1,2,6]))) [.ret (.bb (.bl false))] []],.ret (.bb (.bl true))]
def RK:Fu:=ah (cz (Tz [])) 7 TB
def gs:List (Str×Int):=[]
noncomputable def fs:List (Str×Nat):=[(("is_whole" : Str),1),(("is_below" : Str),2),(("is_sign" : Str),1),(("answer" : Str),4),(("waits" : Str),2),(("is_plain" : Str),2),(("machine_of" : Str),2),(("may_come" : Str),3),(("can" : Str),3),(("cause_of" : Str),2),(("less_letter" : Str),2),(("more_letter" : Str),2),(("outcome" : Str),3),(("steps" : Str),3),(("run" : Str),3),(("_law_well" : Str),2),(("_law_draw" : Str),2),(("_law_roads" : Str),2),(("_law_states" : Str),1),(("_law_sends" : Str),2),(("_law_moves" : Str),3),(("_law_form" : Str),1),(("_law_answer" : Str),4),(("_law_comes" : Str),2),(("_law_answered" : Str),3),(("_law_machine" : Str),2),(("_law_done" : Str),3),(("_law_load" : Str),2),(("_law_stand" : Str),2),(("_law_next" : Str),3),(("_law_deeds" : Str),4),(("_law_told" : Str),3),(("_law_due" : Str),3),(("_law_right" : Str),3),(("_law_bent" : Str),2),(("law" : Str),1)]
end dB
end
section
namespace dB
open L2 Ev
open PySem PySem.Spec PyProof.Rows
abbrev k3:D:=.tup [.str "own",.str "hear",.str "come"]
theorem uU{M:ag}{s a b c:Str}(hs:PyData.strOk s=true)(ha:PyData.strOk a=true)(hb:PyData.strOk b=true)(hc:PyData.strOk c=true):aZ .cT (.d (.str s)) (.d (.tup [.str a,.str b,.str c])) M=.ok (!(a==s||(b==s||c==s))) M:=by
 have h1:∀k (x:Str),cB M k (.str x)=some (.str x):=λk x=>by cases k<;>(unfold cB;rfl)
 have h2:gS M (.d (.str s))=some (.str s):=h1 30 s;have h3:bp M 30 [.str a,.str b,.str c]=some [.str a,.str b,.str c]:=by simp only[bp,h1]
 unfold aZ;simp only[h2,bF,h3,ir hs,List.all_cons,ir ha,ir hb,ir hc,List.all_nil,Bool.and_self,jc,dA];have e:∀x y:Str,PyData.eqv (.str x) (.str y)=(x==y):=λx y=>by simp[PyData.eqv]
 simp only[ia,e,Bool.or_false]
theorem Nf{M:ag}:aZ .cT (.d (.str "own")) (.d k3) M=.ok false M:=(uU bg bg bj aD).trans (by rw[show(("own" : Str) == "own")=true by decide +kernel];rfl)
theorem HF{M:ag}:aZ .cT (.d (.str "hear")) (.d k3) M=.ok false M:=(uU bj bg bj aD).trans (by rw[show(("own" : Str) == "hear")=false by decide +kernel,show(("hear" : Str) == "hear")=true by decide +kernel];rfl)
theorem HG{M:ag}:aZ .cT (.d (.str "come")) (.d k3) M=.ok false M:=(uU aD bg bj aD).trans (by rw[show(("own" : Str) == "come")=false by decide +kernel,show(("hear" : Str) == "come")=false by decide +kernel,show(("come" : Str) == "come")=true by decide +kernel];rfl)
theorem HH{M:ag}:aZ .cT (.d (.str "keep")) (.d k3) M=.ok true M:=(uU yK bg bj aD).trans (by rw[show(("own" : Str) == "keep")=false by decide +kernel,show(("hear" : Str) == "keep")=false by decide +kernel,show(("come" : Str) == "keep")=false by decide +kernel];rfl)
theorem HI{M:ag}:aZ .cT (.d (.str "note")) (.d k3) M=.ok true M:=(uU sk bg bj aD).trans (by rw[show(("own" : Str) == "note")=false by decide +kernel,show(("hear" : Str) == "note")=false by decide +kernel,show(("come" : Str) == "note")=false by decide +kernel];rfl)
theorem Ng{M:ag}{d:Dn}:iL (.pL .tuple) [.d (dw d)] M=.ok (.d (.bl true)) M:=by cases d<;>rfl
def kd:Dn->Str
 | .own _ => "own"
 | .dE _ _ => "hear"
 | .bE _ _ => "come"
theorem Nh{M:ag}{d:Dn}:dh (.d (dw d)) (.d (.int 0)) M=.ok (.d (.str (kd d))) M:=by cases d<;>exact Eq.trans rfl rfl
theorem RL{M:ag}{d:Dn}:aZ .cT (.d (.str (kd d))) (.d (.tup [.str "own",.str "hear",.str "come"])) M=.ok false M:=by
 cases d with
 | own m=>exact Nf
 | dE m c=>exact HF
 | bE r k=>exact HG
def Ni(F:Fn):Prop:=∀(M:ag)(f:Fm)(N:Nat)(s:Sd)(ts:List Tg)(n:Nat),bV f->bz f N s->N+3*ts.length<=880->(∀t∈ts,l0 f t)->M[n]?=some (.lst (ts.map dS)) ->
 aH (F [da f,cA s,.aw n] M) λr M'=>Ex M M'/\(((fz f s ts).length=ts.length/\∃n',r=.d (.tup [cA (fin f s (fz f s ts)),.aw n'])/\M.length<=n'/\M'[n']?=some (.lst ((mF f s (fz f s ts)).map wD)))\/((fz f s ts).length<ts.length/\r=.d (.tup [.str "no",.int (fz f s ts).length])))
theorem Wg{G:a_}(hA:lu (G 24))(hO:iZ (G 26)):Ni (ah G 6 Ts):=by
 intro M f N s ts n hf hs hN ht hn;have jM:=kz (f:=f) (s:=s) (ts:=ts);have w_:=ku (s:=s) ht;have M_:=@xn f ts s;have Iy:=λM=>@oF f M ts s;generalize fz f s ts=ds at jM w_ M_ Iy⊢;rw[bf];show du G Ts [some (da f),some (cA s),some (.aw n),none,none,none] M _ _ _ _;nofun;refine⟨s0,?_⟩;nofun;have hn1:(M++[MO.lst []])[n]?=some (.lst (ts.map dS)):=aG hn;rw[eZ hn1];nofun;rw[aB];refine⟨⟨∅,∅⟩,?_⟩;refine iX (n:=((ts.length:Nat):Int).toNat) (λi ρ M'=>∃m o4 o5,i<=ds.length/\ρ=[some (da f),some (cA (fin f s (ds.take i))),some (.aw n),some (.aw m),o4,o5]/\M.length<=m/\M'[m]?=some (.lst ((mF f s (ds.take i)).map wD))/\Ex M M') ⟨M.length,none,none,mL _,rfl,aE _,av,(Ex.refl M).app⟩ ?_ ?_
 ·rintro i ρ M' hi ⟨m,o4,o5,RM,rfl,Ey,hm,fr⟩;have hi:i<ts.length:=∅;have vD:=Ex.get fr hn;have et:=bZ hi;generalize ts[i]=t at et;have hg:(ts.map dS)[i]?=some (dS t):=by rw[c_,et];rfl
  have Eh:=ht t (fw et);have Cd:=bz.fin hf hs (oB (i:=i) w_);have RF:(ds.take i).length=i:=by rw[dg];omega
  rw[RF]at Cd;rw[show(0:Int)+(i:Int)=((i:Nat):Int) by omega]
  have D_:i=ds.length->du G [.ret (.tup [(.bb (.str "no")),(.dH 4)])] [some (da f),some (cA (fin f s (ds.take i))),some (.aw n),some (.aw m),some (.int i),o5] M' (λ_ _=>False) (λr M'=>Ex M M'/\((ds.length=ts.length/\∃n',r=.d (.tup [cA (fin f s ds),.aw n'])/\M.length<=n'/\M'[n']?=some (.lst ((mF f s ds).map wD)))\/(ds.length<ts.length/\r=.d (.tup [.str "no",.int ds.length])))) (λ_ _=>False) (λ_ _=>False):=by
   rintro rfl;nofun;exact⟨s2,fr,.inr ⟨hi,rfl⟩⟩
  have odd:(∀d,t≠.dn d)->i=ds.length:=λh=>by
   by_cases gh:i<ds.length
   ·have e:=bZ gh;generalize ds[i]=d0 at e;rw[M_ e]at et;cases et;exact absurd rfl (h d0)
   ·omega
  cases t with
  | odd t =>
   have vc:=odd (λd z=>by cases z);nofun;rw[cV vD hg];have Eh:vg t:=Eh
   cases Eh with
   | aL=>nofun;exact D_ vc
   | int=>nofun;exact D_ vc
   | str=>nofun;exact D_ vc
   | keep =>
    nofun;rw[cV vD hg];nofun;refine⟨s3,?_⟩;nofun;rw[HH];nofun;exact D_ vc
   | note =>
    nofun;rw[cV vD hg];nofun;refine⟨s3,?_⟩;nofun;rw[HI];nofun;exact D_ vc
  | dn d =>
   have hg:(ts.map dS)[i]?=some (dw d):=hg;have hd:cX f d:=Eh;nofun;rw[cV vD hg];nofun;rw[Ng];nofun;rw[cV vD hg];nofun;rw[Nh];nofun;refine⟨s3,?_⟩;nofun;rw[RL];nofun;rw[cV vD hg];nofun;refine(hA M' f _ _ d hf Cd ∅ hd).imp ?_;rintro r M2 ⟨f2,rfl⟩;have IW:=Ex.trans fr f2;have je:=Ex.get f2 vD;have VH:=Ex.get f2 hm;nofun
   cases hr:rp f (fin f s (ds.take i)) d with
   | none =>
    have vc:i=ds.length:=by
     by_cases gh:i<ds.length
     ·have e:=bZ gh;generalize ds[i]=d0 at e;have e2:=M_ e;rw[et]at e2;cases e2;have:=(xj w_ e).2;unfold cn at this;rw[hr]at this;cases this
     ·omega
    subst vc;nofun;exact⟨s2,IW,.inr ⟨hi,rfl⟩⟩
   | some x =>
    have gh:i<ds.length:=by
     by_cases gh:i<ds.length
     ·exact gh
     ·exfalso;have vc:i=ds.length:=∅;subst vc;have:=Iy [] et hd;rw[jE]at hr;exact HC hd hr this
    have e:=bZ gh;generalize ds[i]=d0 at e;have e2:=M_ e;rw[et]at e2;cases e2;nofun;rw[cV je hg];nofun;refine(hO M2 f _ _ d x hf Cd ∅ hd hr).imp ?_;rintro r M3 ⟨f3,rfl⟩;have IG:=Ex.get f3 VH;have Ar:=Ex.trans IW f3;have hx:AE f (fin f s (ds.take i)) d=x:=by unfold AE;rw[hr];rfl
    have ML:ds.take (i+1)=ds.take i++[d]:=cM e
    have ew:mF f (fin f s (ds.take i)) [d]=(RC (d9 f (fin f s (ds.take i)) d,mc f d,x.2.2)).toList:=by
     unfold mF;show List.filterMap RC [(_,_,(AE f (fin f s (ds.take i)) d).2.2)]=_;rw[hx];cases x.2.2<;>rfl
    have ef:fin f s (ds.take (i+1))=Mq f (fin f s (ds.take i)) d x:=by rw[ML,sh,<- hx];rfl
    rw[ef,ML,Hz,ew]
    have Yk:∀{ys:List D},ys.length<=1->((mF f s (ds.take i)).map wD).length+ys.length<=sizeLine:=λ{ys} h=>by
     rw[aB];have h1:(mF f s (ds.take i)).length<=i:=by unfold mF;refine bJ (EC _ _) ?_;rw[lz,RF];exact aE _
     exact bJ (show _<=1000 by omega) (by decide)
    obtain⟨a,sd,w⟩:=x
    cases w with
    | none =>
     nofun;refine⟨s1,?_⟩;nofun;rw[show(List.replicate (if (!uq (Ew f d (a,sd,none)))=true then (1:Int) else 0).toNat [Ew f d (a,sd,none)]).flatten=([]:List D) from rfl,D9 (ys:=[]) IG (Yk (mL 1))];nofun;exact⟨_,_,_,gh,rfl,bJ Ey (kJ (by have:=(bG.mp IG).1;omega)),by rw[gy];exact av,Ex.trans Ar (Ex.refl _).app⟩
    | some w =>
     nofun;refine⟨s1,?_⟩;nofun;rw[show(List.replicate (if (!uq (Ew f d (a,sd,some w)))=true then (1:Int) else 0).toNat [Ew f d (a,sd,some w)]).flatten=[wD (mc f d,w)] from rfl,D9 (ys:=[wD (mc f d,w)]) IG (Yk (aE 1))];nofun;exact⟨_,_,_,gh,rfl,bJ Ey (kJ (by have:=(bG.mp IG).1;omega)),by rw[gy];exact av,Ex.trans Ar (Ex.refl _).app⟩
 ·rintro ρ M' ⟨m,o4,o5,RM,rfl,Ey,hm,fr⟩;rw[show((ts.length:Nat):Int).toNat=ts.length by omega]at RM hm⊢;rw[AG jM]at hm⊢;nofun;exact⟨s2,fr,.inl ⟨∅,m,rfl,Ey,hm⟩⟩
end dB
end
section
namespace dB
open L2 Ev
open PySem PySem.Spec PyProof.Rows
noncomputable def Nm:Tg->Prop
 | .dn (.bE _ k)=>0<=k/\k<10 ^ 12
 | _=>True
theorem dy{x:Str} (h:x = "own" \/ x = "hear" \/ x = "come" \/ x = "keep" \/ x = "note"):Sm 14 0 (.str x):=by
 rcases h with rfl | rfl | rfl | rfl | rfl<;>exact Sm.str ⋯ ⟨⋯,⋯⟩
theorem e9{P:D->Prop}{a b c:D}(ha:P a)(hb:P b)(hc:P c):∀d∈[a,b,c],P d:=λd hd=>by
 simp only[bT,fW,fb]at hd;rcases hd with rfl | rfl | rfl<;>assumption
theorem I0{f:Fm}(hf:bV f){t:Tg}(h:l0 f t)(k:Nm t):Sm 60 1 (dS t):=by
 have h4:=hf.l4;have h8:=hf.l8;have si:∀m:Nat,m<100->Sm 14 0 (.int m):=λm hm=>(Sm.int (i:=(m:Int)) ∅ ∅).mono (by decide) (by decide)
 cases t with
 | odd t =>
  have h:vg t:=h
  cases h with
  | aL=>exact Sm.aL.mono (by decide) (by decide)
  | int=>exact(Sm.int (i:=7) (by decide) (by decide)).mono (by decide) (by decide)
  | str=>exact(dy (.inl rfl)).mono (by decide) (by decide)
  | keep=>exact(Sm.tup (b:=14) (h:=0) (k:=3) (e5 (dy (.inr (.inr (.inr (.inl rfl))))) (si 0 (by decide))) (by decide)).mono (by decide) (by decide)
  | note=>exact(Sm.tup (b:=14) (h:=0) (k:=3) (e9 (dy (.inr (.inr (.inr (.inr rfl))))) (si 0 (by decide)) (si 0 (by decide))) (by decide)).mono (by decide) (by decide)
 | dn d =>
  have h:cX f d:=h
  cases d with
  | own m=>exact(Sm.tup (b:=14) (h:=0) (k:=3) (e5 (dy (.inl rfl)) (si m (by have:m<f.ru.length:=h;omega))) (show 2<=3 by decide)).mono (by decide) (by decide)
  | dE m c=>exact(Sm.tup (b:=14) (h:=0) (k:=3) (e9 (dy (.inr (.inl rfl))) (si m (by have:m<f.ru.length:=h.1;omega)) (xq h.2)) (aE 3)).mono (by decide) (by decide)
  | bE r j=>exact(Sm.tup (b:=14) (h:=0) (k:=3) (e9 (dy (.inr (.inr (.inl rfl)))) (si r (by have:r<f.ro.length:=h;omega)) (su k.1 k.2)) (aE 3)).mono (by decide) (by decide)
theorem HJ{b h:Nat}{ds:List D}(q:∀d∈ds,Sm b h d)(hl:ds.length<=1000)(hb:b<=1000)(hh:h<=20):∃x,PyData.strOk x=true/\(∀M n,M[n]?=some (.lst ds)->iL .fC [.d (.aw n)] M=.ok (.d (.str x)) M)/\∀M,iL .fC [.lv ds] M=.ok (.d (.str x)) M:=by
 obtain⟨ps,e,a,l⟩:=Sm.ds q;obtain⟨q1,q2,q3,q4,q5⟩:=o_.list (k:=1000) a ∅;have sy:1000*(b+2)+2<=sizeLine:=bJ (show 1000*(b+2)+2<=1002002 by omega) (by decide);refine⟨(PyData.list ps).shown,q5,λM n hM=>?_,λM=>?_⟩
 ·unfold iL
  have:gS M (.d (.aw n))=some (.list ps):=by
   show cB M 30 (.aw n)=_;unfold cB;simp only[hM];rw[e M 29 ∅];rfl
  simp only[this];rw[aF ⟨q2,∅,bJ q4 sy⟩]
 ·unfold iL
  have:gS M (.lv ds)=some (.list ps):=by
   show(bp M 30 ds).map PyData.list=_;rw[e M 30 ∅];rfl
  simp only[this];rw[aF ⟨q2,∅,bJ q4 sy⟩]
theorem Nj{n:Nat}(h:n<100):Sm 35 1 (.tup [.str "no",.int n]):=(Sm.tup (b:=14) (h:=0) (k:=2) (e5 (Sm.str ⋯ ⟨⋯,⋯⟩) ((Sm.int (i:=(n:Int)) ∅ ∅).mono (by decide) (by decide))) (aE 2)).mono (by decide) (by decide)
theorem RN{M:ag}{l:List D}{b h:Nat}(q:Sm b h (.tup l))(hh:h<=30):aZ .ne (.d (.tup l)) (.d (.str "no")) M=.ok true M:=by
 obtain⟨p,e,q⟩:=q;have e0:=e M 30 hh;have h1:gS M (.d (.tup l))=some p:=e0;have h2:gS M (.d (.str "no"))=some (.str "no"):=by show cB M 30 (.str _)=_;unfold cB;rfl
 have h3:SeqAt.shaped p=true:=q.shaped ∅;have h4:SeqAt.shaped (.str "no")=true:=⋯
 have h5:∃ps,p=.tuple ps:=by
  unfold cB at e0
  cases e1:bp M 29 l with
  | none=>simp[e1]at e0
  | some ps=>simp[e1]at e0;exact⟨ps,e0.symm⟩
 obtain⟨ps,rfl⟩:=h5;unfold aZ;simp only[h1,h2,h3,h4,jc,dA];simp[PyData.eqv]
theorem I_:PyData.strOk "no" = true:=⋯
def xr(F:Fn):Prop:=∀(M:ag)(f:Fm)(s:Sd)(ts:List Tg)(n:Nat),bV f->bz f 4 s->ts.length<=61->(∀t∈ts,l0 f t/\Nm t)->M[n]?=some (.lst (ts.map dS))->aH (F [da f,cA s,.aw n] M) λr M'=>r=.d (.bl true)/\Ex M M'
theorem Nk{G:a_}(hDu:Ni (G 32))(hT:D5 (G 31)):xr (ah G 6 Tu):=by
 intro M f s ts n hf hs hl ht hn;have N1:∀t∈ts,l0 f t:=λt h=>(ht t h).1;have jM:=kz (f:=f) (s:=s) (ts:=ts);have w_:=ku (s:=s) N1;have Wh:=bz.fin hf hs w_
 obtain⟨z,hz,Yl,Ym⟩:=HJ (ds:=ts.map dS) (λd hd=>by
  obtain⟨t,h,rfl⟩:=fK.mp hd;exact I0 hf (ht t h).1 (ht t h).2) (by rw[aB];omega) (by decide) (by decide)
 have hlm:(ts.map dS).length<=sizeLine:=by rw[aB];exact bJ hl (by decide)
 rw[bf];show du G Tu [some (da f),some (cA s),some (.aw n),none,none,none] M _ _ _ _;nofun;rw[nP hn];nofun;have f1:Ex M (M++[MO.lst (ts.map dS)]):=(Ex.refl M).app;refine(hDu _ f 4 s ts n hf hs ∅ N1 (Ex.get f1 hn)).imp ?_;rintro r M2 ⟨f2,hr⟩;have tw:M2[M.length]?=some (.lst (ts.map dS)):=Ex.get f2 av;have je:=Ex.get f2 (Ex.get f1 hn);rcases hr with⟨hk,n2,rfl,As,lZ⟩|⟨hk,rfl⟩
 ·have B0:(mF f s (fz f s ts)).length<=61:=by unfold mF;refine bJ (EC _ _) ?_;rw[lz];omega
  have Mn:Sm 237053 5 (cA (fin f s (fz f s ts))):=RJ hf Wh ∅
  obtain⟨x,hx,HK⟩:=HE (ws:=mF f s (fz f s ts)) Mn (λp hp=>by
   have:=D1 hf hs w_ p hp;exact⟨by have:=hf.l4;omega,this.2⟩) ∅
  nofun;refine(hT _ f 4 s ts (.aw M.length) hf hs ∅ N1 (.l tw)).imp ?_;rintro r M3 ⟨f3,hr⟩;rcases hr with⟨_,n3,rfl,NQ,pX⟩|⟨SF,_⟩
  ·have RO:=Ex.get f3 lZ;nofun;rw[HK M3 n3 pX];nofun;rw[HK M3 n2 RO];nofun;rw[lJ hx hx,mJ];nofun;rw[Yl M3 _ (Ex.get f3 tw)];nofun;rw[nP (Ex.get f3 je)];nofun;rw[Ym];nofun;rw[lJ hz hz,mJ];nofun;rw[show cA (fin f s (fz f s ts))=.tup [_,_] from rfl,RN (show Sm 237053 5 (.tup [_,_]) from Mn) (by decide)];nofun;refine⟨cK pX,?_⟩;nofun;refine⟨s2,?_⟩;nofun;rw[dr pX (bq (by rw[aB];omega))];have lt2:=(bG.mp lZ).1;have ltn:=(bG.mp je).1;have f4:Ex M (M3.set n3 (.lst ((mF f s (fz f s ts)).map wD++[D.tup [.int 0,.str "odd"]]))):=Fr.set (Ex.trans (Ex.trans f1 f2) f3) (bJ f1.1 (bJ f2.1 NQ));have IJ:(M3.set n3 (.lst ((mF f s (fz f s ts)).map wD++[D.tup [.int 0,.str "odd"]])))[n]?=some (.lst (ts.map dS)):=bh (Ex.get f3 je) ∅;have jA:(M3.set n3 (.lst ((mF f s (fz f s ts)).map wD++[D.tup [.int 0,.str "odd"]])))[n2]?=some (.lst ((mF f s (fz f s ts)).map wD)):=bh RO ∅;generalize (M3.set n3 (.lst ((mF f s (fz f s ts)).map wD++[D.tup [.int 0,.str "odd"]])))=M4 at f4 IJ jA⊢;nofun;rw[bO IJ];nofun;refine(hT _ f 4 s ts (.tup (ts.map dS)) hf hs ∅ N1 .t).imp ?_;rintro r M5 ⟨f5,hr⟩;rcases hr with⟨_,n5,rfl,Ek,my⟩|⟨SF,_⟩
   ·nofun;rw[HK M5 n5 my];nofun;rw[show D.tup [_,_]=cA (fin f s (fz f s ts)) from rfl,HK M5 n2 (Ex.get f5 jA)];nofun;rw[bo hx hx,mJ];exact⟨rfl,Ex.trans f4 f5⟩
   ·omega
  ·omega
 ·obtain⟨x,hx,HK⟩:=Hg (Nj (n:=(fz f s ts).length) ∅) (by decide) (by decide);nofun;refine(hT _ f 4 s ts (.aw M.length) hf hs ∅ N1 (.l tw)).imp ?_;rintro r M3 ⟨f3,hr⟩;rcases hr with⟨SF,_⟩|⟨_,rfl⟩
  ·omega
  ·nofun;rw[HK M3];nofun;rw[HK M3];nofun;rw[lJ hx hx,mJ];nofun;rw[Yl M3 _ (Ex.get f3 tw)];nofun;rw[nP (Ex.get f3 je)];nofun;rw[Ym];nofun;rw[lJ hz hz,mJ];nofun;rw[lJ I_ I_,mJ];nofun;rw[bO (Ex.get f3 je)];nofun;refine(hT _ f 4 s ts (.tup (ts.map dS)) hf hs ∅ N1 .t).imp ?_;rintro r M4 ⟨f4,hr⟩;rcases hr with⟨SF,_⟩|⟨_,rfl⟩
   ·omega
   ·nofun;rw[HK M4];nofun;rw[HK M4];nofun;rw[bo hx hx,mJ];exact⟨rfl,Ex.trans (Ex.trans (Ex.trans f1 f2) f3) f4⟩
end dB
end
section
namespace dB
open L2 Ev
open PySem PySem.Spec PyProof.Rows
theorem TC{n d i:Nat}:HT.dG n d (some (i:Int))=min i n:=HT.Fz n d i
theorem uV{M:ag}{n i:Nat}{ds:List D}(h:M[n]?=some (.lst ds)):ib (.d (.aw n)) none (some (i:Int)) M=.ok (.lv (ds.take i)) M:=by
 have e:Ev.cutD ds none (some (i:Int))=ds.take i:=by
  unfold Ev.cutD;rw[TC,show HT.dG ds.length 0 none=0 from rfl,List.drop_zero,Nat.sub_zero];rcases Nat.le_total i ds.length with q | q
  ·rw[EZ q]
  ·rw[Nat.min_eq_right q,jE,AG q]
 unfold ib;simp only[bF,h,e]
theorem uW{M:ag}{n i:Nat}{ds:List D}(h:M[n]?=some (.lst ds)):ib (.d (.aw n)) (some (i:Int)) none M=.ok (.lv (ds.drop i)) M:=by
 have e:Ev.cutD ds (some (i:Int)) none=ds.drop i:=by
  unfold Ev.cutD;rw[TC,show HT.dG ds.length ds.length none=ds.length from rfl];rcases Nat.le_total i ds.length with q | q
  ·rw[EZ q];exact AG (by rw[gZ];exact aE _)
  ·rw[Nat.min_eq_right q,List.drop_length,List.drop_of_length_le q,List.take_nil]
 unfold ib;simp only[bF,h,e]
theorem Ja{M:ag}{n i:Nat}{ds:List D}(h:M[n]?=some (.lst ds)):ib (.d (.aw n)) (some (i:Int)) (some ((i+1:Nat):Int)) M=.ok (.lv ((ds.drop i).take 1)) M:=by
 have e:Ev.cutD ds (some (i:Int)) (some ((i+1:Nat):Int))=(ds.drop i).take 1:=by
  unfold Ev.cutD;rw[TC,TC];rcases Be i ds.length with q | q
  ·rw[EZ (kJ q),EZ q,show i+1-i=1 by omega]
  ·rw[Nat.min_eq_right q,List.drop_length,List.drop_of_length_le q];simp
 unfold ib;simp only[bF,h,e]
abbrev lA:List Tg:=[.dn (.own 0),.odd .aL,.odd (.int 7),.odd (.tup [.str "keep",.int 0]),.odd (.tup [.str "note",.int 0,.int 0]),.dn (.bE 0 1000000000),.dn (.dE 0 "b"),.odd (.str "own")]
noncomputable def Ai(ds:List Dn)(ts:List Tg):Prop:=ts.length<=ds.length+1/\∀t∈ts,t∈ds.map Tg.dn\/t∈lA
def Ea(F:Fn):Prop:=∀(M:ag)(w:Nat)(T:Int)(ds:List Dn)(n:Nat),WA M w T->T<10000->n<w->ds.length<=60->M[n]?=some (.lst (ds.map dw))->aH (F [.aw w,.aw n] M) λr M'=>∃ts:List Tg,r=.lv (ts.map dS)/\Ai ds ts/\Fr w M M'
theorem Nl{M:ag}{n:Nat}{xs ys:List D}(h:M[n]?=some (.lst ys))(hl:xs.length+ys.length<=sizeLine):kU .add (.lv xs) (.d (.aw n)) M=.ok (.lv (xs++ys)) M:=by
 unfold kU;simp only[fi,h];rw[aF hl]
theorem qg{G:a_}{M M2:ag}{w n i:Nat}{ds:List Dn}{Q:List Tg}{o0 o3 o4 o5:Option D}(hl:ds.length<=60)(Wi:Q.length=ds.length)(je:M2[n]?=some (.lst (Q.map dS)))(vd:Fr w M M2)(uX:∀ts:List Tg,ts.length<=ds.length+1->(∀t∈ts,t∈Q\/t∈lA)->Ai ds ts)(hi:i<=ds.length):du G [.asg [6] (.bin .add (.jz (.dH 1) (some (.bin .add (.dH 2) (.bb (.int 1)))) (some (.bin .add (.dH 2) (.bb (.int 2))))) (.jz (.dH 1) (some (.dH 2)) (some (.bin .add (.dH 2) (.bb (.int 1)))))),.ret (.bin .add (.bin .add (.jz (.dH 1) none (some (.dH 2))) (.dH 6)) (.jz (.dH 1) (some (.bin .add (.dH 2) (.bb (.int 2)))) none))] [o0,some (.aw n),some (.int i),o3,o4,o5,none] M2 (λ_ _=>False) (λr M'=>∃ts:List Tg,r=.lv (ts.map dS)/\Ai ds ts/\Fr w M M') (λ_ _=>False) (λ_ _=>False):=by
 have hs:∀k:Nat,k<=200->k<=sizeLine:=λk h=>bJ h (by decide);nofun;rw[show(i:Int)+2=((i+1+1:Nat):Int) by omega,show(i:Int)+1=((i+1:Nat):Int) by omega,Ja je];nofun;rw[show(i:Int)+1=((i+1:Nat):Int) by omega,Ja je];nofun;refine⟨hs _ (by simp only[dg,gZ,aB];omega),?_⟩;nofun;rw[uV (aG je)];nofun;rw[Nl av (hs _ (by simp only[dz,dg,gZ,aB];omega))];nofun;rw[show(i:Int)+2=((i+2:Nat):Int) by omega,uW (aG je)];nofun;refine⟨hs _ (by simp only[dz,dg,gZ,aB];omega),?_⟩;refine⟨Q.take i++((Q.drop (i+1)).take 1++(Q.drop i).take 1)++Q.drop (i+2),by simp only[gy,vA,A_],uX _ ?_ ?_,Fr.app vd⟩
 ·simp only[dz,dg,gZ];omega
 ·intro u hu;simp only[eV]at hu;rcases hu with(hu | hu | hu) | hu
  ·exact .inl (jC hu)
  ·exact .inl (sL (jC hu))
  ·exact .inl (sL (jC hu))
  ·exact .inl (sL hu)
theorem RP{G:a_}(hD:d7 (G 16)):Ea (ah G 7 Tw):=by
 intro M w T ds n hw hT hnw hl hn;rw[bf];show du G Tw [some (.aw w),some (.aw n),none,none,none,none,none] M _ _ _ _;have hn0:M[n]?=some (.lst ((ds.map Tg.dn).map dS)):=by rw[y4];exact hn
 nofun;rw[eZ hn];nofun;rw[aB];refine(hD M w T _ hw ∅ ∅ ∅).imp ?_;rintro r M1 ⟨a,rfl,a0,a1,u_,f1⟩;obtain⟨i,rfl⟩:∃i:Nat,a=(i:Int):=⟨a.toNat,∅⟩;have hi:i<=ds.length:=∅;nofun;refine⟨s2,?_⟩;nofun;refine⟨s2,?_⟩;nofun;refine⟨s3,?_⟩;nofun;refine⟨s3,?_⟩;nofun;refine⟨s3,?_⟩;nofun;refine⟨(show(8:Nat)<=sizeLine by decide),?_⟩;nofun;show aH (G 16 [.aw w,.int 6] (M1++[MO.lst (lA.map dS)])) _;have B0:=u_.lt;refine(hD _ w (T+1) 6 u_.app ∅ ∅ ∅).imp ?_;rintro r M2 ⟨y,rfl,y0,y1,lZ,f2⟩;have Yn:M2[M1.length]?=some (.lst (lA.map dS)):=f2.get av ∅;have je:M2[n]?=some (.lst ((ds.map Tg.dn).map dS)):=f2.get (aG (f1.get hn0 ∅)) ∅;have vd:Fr w M M2:=Fr.trans f1 (Fr.trans (Fr.app (Fr.refl _ _)) f2);have hs:∀k:Nat,k<=200->k<=sizeLine:=λk h=>bJ h (by decide);generalize TH:ds.map Tg.dn=Q at je;have Wi:Q.length=ds.length:=by rw[<- TH,aB]
 have uX:∀ts:List Tg,ts.length<=ds.length+1->(∀t∈ts,t∈Q\/t∈lA)->Ai ds ts:=λts h1 h2=>⟨h1,λt ht=>by rw[TH];exact h2 t ht⟩;rcases(show y=0\/y=1\/y=2\/y=3\/y=4\/y=5 by omega)with rfl | rfl | rfl | rfl | rfl | rfl
 ·nofun;refine(hD M2 w (T+1+1) 8 lZ ∅ ∅ ∅).imp ?_;rintro r M3 ⟨j,rfl,j0,j1,pX,f3⟩;obtain⟨j,rfl⟩:∃k:Nat,j=(k:Int):=⟨j.toNat,∅⟩;have hj:j<lA.length:=by show j<8;omega
  have ej:=bZ hj;have RQ:=fw ej;generalize lA[j]=t at ej RQ;have Nn:=f3.get Yn ∅;have Jb:=f3.get je ∅;nofun;rw[cV Nn (x:=dS t) (by rw[c_,ej];rfl)];nofun;refine⟨s3,?_⟩;nofun;refine⟨s2,?_⟩;nofun;rw[uV Jb];nofun;refine⟨s1,?_⟩;nofun;refine⟨hs _ (by simp only[dg,aB,fJ,kI];omega),?_⟩;nofun;rw[uW Jb];nofun;refine⟨hs _ (by simp only[dz,dg,gZ,aB,fJ,kI];omega),?_⟩;refine⟨Q.take i++[t]++Q.drop i,by simp only[gy,vA,A_,eJ,lR],uX _ ?_ ?_,Fr.trans vd f3⟩
  ·simp only[dz,dg,gZ,fJ,kI];omega
  ·intro u hu;simp only[eV,bT,fW,fb]at hu;rcases hu with(hu | rfl) | hu
   ·exact .inl (jC hu)
   ·exact .inr RQ
   ·exact .inl (sL hu)
 ·nofun;refine(hD M2 w (T+1+1) 8 lZ ∅ ∅ ∅).imp ?_;rintro r M3 ⟨j,rfl,j0,j1,pX,f3⟩;obtain⟨j,rfl⟩:∃k:Nat,j=(k:Int):=⟨j.toNat,∅⟩;have hj:j<lA.length:=by show j<8;omega
  have ej:=bZ hj;generalize lA[j]=t at ej;have Nn:=f3.get Yn ∅;have Jb:=f3.get je ∅;nofun;rw[cV Nn (x:=dS t) (by rw[c_,ej];rfl)];nofun;refine⟨s3,?_⟩;nofun;refine⟨s2,?_⟩;nofun;rw[uV Jb];nofun;refine⟨s1,?_⟩;nofun;refine⟨hs _ (by simp only[dg,aB,fJ,kI];omega),?_⟩;nofun;rw[uW Jb];nofun;refine⟨hs _ (by simp only[dz,dg,gZ,aB,fJ,kI];omega),?_⟩;refine⟨Q.take i++[.dn (.dE 0 "b")]++Q.drop i,by simp only[gy,vA,A_,eJ,lR];rfl,uX _ ?_ ?_,Fr.trans vd f3⟩
  ·simp only[dz,dg,gZ,fJ,kI];omega
  ·intro u hu;simp only[eV,bT,fW,fb]at hu;rcases hu with(hu | rfl) | hu
   ·exact .inl (jC hu)
   ·exact .inr (fw (i:=6) rfl)
   ·exact .inl (sL hu)
 ·nofun;rw[uV je];nofun;rw[show(if (i:Int)-1>0 then (i:Int)-1 else 0)=((i-1:Nat):Int) by split<;>omega,uW je];nofun;refine⟨hs _ (by simp only[dz,dg,gZ,aB,fJ,kI];omega),?_⟩;refine⟨Q.take i++Q.drop (i-1),by simp only[gy,vA,A_],uX _ ?_ ?_,vd⟩
  ·simp only[dz,dg,gZ];omega
  ·intro u hu;rcases eV.mp hu with hu | hu
   ·exact .inl (jC hu)
   ·exact .inl (sL hu)
 ·nofun;rw[uV je];nofun;rw[show(i:Int)+1=((i+1:Nat):Int) by omega,uW je];nofun;refine⟨hs _ (by simp only[dz,dg,gZ,aB,fJ,kI];omega),?_⟩;refine⟨Q.take i++Q.drop (i+1),by simp only[gy,vA,A_],uX _ ?_ ?_,vd⟩
  ·simp only[dz,dg,gZ];omega
  ·intro u hu;rcases eV.mp hu with hu | hu
   ·exact .inl (jC hu)
   ·exact .inl (sL hu)
 ·nofun;exact qg hl Wi je vd uX hi
 ·nofun;exact qg hl Wi je vd uX hi
end dB
end
section
namespace dB
open L2 Ev
open PySem PySem.Spec PyProof.Rows
def pq(d:D):PyData:=(cB [] 30 d).getD .none
theorem lM{d:D}(h:Sm 60 1 d):(∀M n,1<=n->cB M n d=some (pq d))/\SeqAt.shaped (pq d)=true:=by
 obtain⟨p,e,q⟩:=h;have:pq d=p:=by unfold pq;rw[e [] 30 (by decide)];rfl
 rw[this];exact⟨λM n hn=>e M n hn,q.shaped (by decide)⟩
theorem Jc{M:ag}:∀{l:List D},(∀d∈l,Sm 60 1 d)->bp M 30 l=some (l.map pq)
 | [],_=>by unfold bp;rfl
 | d::l,h=>by
  unfold bp;rw[(lM (h d ez)).1 M 30 (by decide),Jc λd hd=>h d (dP _ hd)];rfl
theorem Np{M:ag}{n:Nat}{x:D}{l:List D}(hx:Sm 60 1 x)(hl:∀d∈l,Sm 60 1 d)(h:M[n]?=some (.lst l)):aZ .isin (.d x) (.d (.aw n)) M=.ok (ia (pq x) (l.map pq)) M:=by
 have h1:gS M (.d x)=some (pq x):=(lM hx).1 M 30 (by decide)
 have h2:(l.map pq).all SeqAt.shaped=true:=sQ.mpr λp hp=>by
  obtain⟨d,hd,rfl⟩:=fK.mp hp;exact(lM (hl d hd)).2
 unfold aZ;simp only[h1,bF,h,Jc hl,(lM hx).2,h2,jc,dA]
theorem Nq{M:ag}{a b:D}(ha:Sm 60 1 a)(hb:Sm 60 1 b):aZ .ne (.d a) (.d b) M=.ok (!PyData.eqv (pq a) (pq b)) M:=by
 have h1:gS M (.d a)=some (pq a):=(lM ha).1 M 30 (by decide);have h2:gS M (.d b)=some (pq b):=(lM hb).1 M 30 (by decide);unfold aZ;simp only[h1,h2,(lM ha).2,(lM hb).2,jc,dA]
abbrev cm:Tg:=.dn (.bE 0 1000000000)
theorem RS:pq (dS cm)=.tuple [.str "come",.int 0,.int 1000000000]:=by
 have h:cB [] 30 (.tup [.str "come",.int (0:Nat),.int 1000000000])=some (.tuple [.str "come",.int 0,.int 1000000000]):=by simp only[cB,bp,vv];rfl
 unfold pq;rw[show dS cm=.tup [.str "come",.int (0:Nat),.int 1000000000] from rfl,h];rfl
theorem Jd:PyData.eqv (pq (dS cm)) (pq (dS cm))=true:=by rw[RS];decide +kernel
def hit(t:Tg):Bool:=PyData.eqv (pq (dS t)) (pq (dS cm))
theorem Eb:∀{ts:List Tg},ia (pq (dS cm)) ((ts.map dS).map pq)=ts.any hit
 | []=>rfl
 | t::ts=>by
  show(PyData.eqv _ _||ia _ ((ts.map dS).map pq))=(hit t||ts.any hit);rw[Eb];rfl
theorem sv:∀t∈lA,Sm 60 1 (dS t):=λt ht=>by
 have si:Sm 14 0 (.int 0):=(Sm.int (i:=0) (by decide) (by decide)).mono (by decide) (by decide);simp only[lA,bT,fW,fb]at ht;rcases ht with rfl | rfl | rfl | rfl | rfl | rfl | rfl | rfl
 ·exact(Sm.tup (b:=14) (h:=0) (k:=3) (e5 (dy (.inl rfl)) si) (show 2<=3 by decide)).mono (by decide) (by decide)
 ·exact Sm.aL.mono (by decide) (by decide)
 ·exact(Sm.int (i:=7) (by decide) (by decide)).mono (by decide) (by decide)
 ·exact(Sm.tup (b:=14) (h:=0) (k:=3) (e5 (dy (.inr (.inr (.inr (.inl rfl))))) si) (show 2<=3 by decide)).mono (by decide) (by decide)
 ·exact(Sm.tup (b:=14) (h:=0) (k:=3) (e9 (dy (.inr (.inr (.inr (.inr rfl))))) si si) (aE 3)).mono (by decide) (by decide)
 ·exact(Sm.tup (b:=14) (h:=0) (k:=3) (e9 (dy (.inr (.inr (.inl rfl)))) si (su (by decide) (by decide))) (aE 3)).mono (by decide) (by decide)
 ·exact(Sm.tup (b:=14) (h:=0) (k:=3) (e9 (dy (.inr (.inl rfl))) si (xq (.inr (.inl rfl)))) (aE 3)).mono (by decide) (by decide)
 ·exact(dy (.inl rfl)).mono (by decide) (by decide)
theorem Ec{f:Fm}{N:Nat}{s:Sd}{r:Nat}{k:Int}(hs:bz f N s)(hN:N<=900)(hr:r<f.ro.length)(hc:cn f s (.bE r k)=true):0<=k/\k<10 ^ 12:=by
 obtain⟨h,_⟩:=uT hc;obtain⟨p,hp,rfl⟩:=fK.mp h
 have hm:Ev.load s r∈s.ld:=by
  unfold Ev.load;have hl:r<s.ld.length:=by rw[hs.ll];exact hr
  rw[jB,bZ hl];exact qk hl
 have h1:=(hs.ld _ hm).p p hp;have h2:=(hs.ld _ hm).s;omega
theorem xt{f:Fm}(hf:bV f){s:Sd}{ds:List Dn}(hs:bz f 4 s)(hr:eh f s ds)(hl:ds.length<=60):∀d∈ds,l0 f (.dn d)/\Nm (.dn d):=λd hd=>by
 obtain⟨i,hi⟩:=List.getElem?_of_mem hd;obtain⟨k1,k2⟩:=xj hr hi;have h1:=bz.fin hf hs (oB (i:=i) hr);have h2:(ds.take i).length<=60:=by rw[dg];omega
 refine⟨k1,?_⟩
 cases d with
 | own m=>trivial
 | dE m c=>trivial
 | bE r k=>exact Ec h1 ∅ k1 k2
theorem Nr{f:Fm}(hf:bV f){t:Tg}(h:t∈lA)(k:0<f.ro.length\/t≠cm):l0 f t/\Nm t:=by
 have h1:=hf.l1;simp only[lA,bT,fW,fb]at h;rcases h with rfl | rfl | rfl | rfl | rfl | rfl | rfl | rfl
 ·exact⟨show 0<f.ru.length by omega,trivial⟩
 ·exact⟨vg.aL,trivial⟩
 ·exact⟨vg.int,trivial⟩
 ·exact⟨vg.keep,trivial⟩
 ·exact⟨vg.note,trivial⟩
 ·rcases k with k | k
  ·exact⟨k,by decide,by decide⟩
  ·exact absurd rfl k
 ·exact⟨⟨show 0<f.ru.length by omega,.inr (.inl rfl)⟩,trivial⟩
 ·exact⟨vg.str,trivial⟩
theorem sx{f:Fm}(hf:bV f){s:Sd}{ds:List Dn}{ts:List Tg}(hs:bz f 4 s)(hr:eh f s ds)(hl:ds.length<=60)(hb:Ai ds ts){t:Tg}(ht:t∈ts)(k:0<f.ro.length\/t≠cm):l0 f t/\Nm t:=by
 rcases hb.2 t ht with h | h
 ·obtain⟨d,hd,rfl⟩:=fK.mp h;exact xt hf hs hr hl d hd
 ·exact Nr hf h k
theorem HL{f:Fm}(hf:bV f){s:Sd}{ds:List Dn}{ts:List Tg}(hs:bz f 4 s)(hr:eh f s ds)(hl:ds.length<=60)(hb:Ai ds ts):∀d∈ts.map dS,Sm 60 1 d:=λd hd=>by
 obtain⟨t,ht,rfl⟩:=fK.mp hd;rcases hb.2 t ht with h | h
 ·obtain⟨d,JL,rfl⟩:=fK.mp h;have:=xt hf hs hr hl d JL;exact I0 hf this.1 this.2
 ·exact sv t h
end dB
end
section
namespace dB
open L2 Ev
open PySem PySem.Spec PyProof.Rows
def lN(d:D):Option D:=if PyData.eqv (pq d) (pq (dS cm))=true then none else some d
theorem oG:∀{ts:List Tg},(ts.map dS).filterMap lN=(ts.filter λt=>!hit t).map dS
 | []=>rfl
 | t::ts=>by
  rw[eJ,jD,AQ]
  cases h:hit t with
  | true =>
   have:lN (dS t)=none:=by unfold lN;exact aF h
   rw[this];simp only[Bool.not_true,AM,oO];exact oG
  | false =>
   have:lN (dS t)=some (dS t):=by unfold lN;exact aP (by unfold hit at h;rw[h];decide)
   rw[this];simp only[Bool.not_false,dA,eJ];rw[oG]
theorem Nt{G:a_}(hF:Dv (G 21))(Q3:se (G 28))(TH:sj (G 30))(hW:nV (G 15))(hBe:Ea (G 34))(hR:xr (G 33))(ns:List Int)(kC:ns.length<=63):aH (ah G 7 TB [.ls (ns.map D.int)] []) λr _=>r=.d (.bl true):=by
 rw[bf];show du G TB [some (.ls (ns.map D.int)),none,none,none,none,none,none] [] _ _ _ _;nofun;refine(hF [] ns kC).imp ?_;rintro r M1 ⟨d,e,hd,f1⟩;obtain⟨f,rfl,hf⟩:=wX hd;subst e;nofun;refine(Q3 M1 ns f kC hf).imp ?_;rintro r M2 ⟨s,rfl,hs,_,f2⟩;nofun;refine(TH M2 ns f s 60 kC hf hs ∅ ∅).imp ?_;rintro r M3 ⟨n,ds,rfl,NQ,Jb,hr,aJ,f3⟩;have aJ:ds.length<=60:=∅;have Wj:M3[n]?=some (.lst ((ds.map Tg.dn).map dS)):=by rw[y4];exact Jb
 nofun
 refine(hR M3 f s (ds.map Tg.dn) n hf hs (by rw[aB];omega) (λt ht=>by
  obtain⟨d,hd,rfl⟩:=fK.mp ht;exact xt hf hs hr aJ d hd) Wj).imp λr M4 ⟨e,f4⟩=>?_
 subst e;nofun;refine⟨s0,?_⟩;nofun;refine(hR _ f s [] M4.length hf hs (by decide) (λt ht=>by cases ht) av).imp ?_;rintro r M5 ⟨rfl,f5⟩;have VO:M5[n]?=some (.lst (ds.map dw)):=Ex.get f5 (aG (Ex.get f4 Jb));nofun;refine⟨⟨∅,∅⟩,?_⟩;refine iX (n:=8) (λi ρ M'=>∃o4 o5 o6,ρ=[some (.ls (ns.map D.int)),some (da f),some (cA s),some (.aw n),o4,o5,o6]/\M'[n]?=some (.lst (ds.map dw))) ⟨_,_,_,rfl,VO⟩ ?_ ?_
 ·rintro i ρ M6 hi ⟨o4,o5,o6,rfl,SS⟩;have gh:=(bG.mp SS).1;nofun;refine⟨.inl (by decide),?_⟩;nofun;refine(hW M6 ns (6+3*(0+(i:Int))) ∅ ∅ kC).imp ?_;rintro r M7 ⟨rfl,XD,AA,f7⟩;have NZ:=Ex.get f7 SS;nofun;refine(hBe M7 M6.length 0 ds n AA ∅ gh aJ NZ).imp ?_;rintro r M8 ⟨ts,rfl,hb,f8⟩;have Ru:M8[n]?=some (.lst (ds.map dw)):=f8.get NZ ∅;have hlt8:=(bG.mp Ru).1;have Mn:=HL hf hs hr aJ hb;have hbl:=hb.1;have TJ:(M8++[MO.lst (ts.map dS)])[n]?=some (.lst (ds.map dw)):=aG Ru;have Nu:(M8++[MO.lst (ts.map dS)])[M8.length]?=some (.lst (ts.map dS)):=av;nofun;generalize M8++[MO.lst (ts.map dS)]=M9 at TJ Nu⊢
  cases SU:(((f.ro.map z_).length:Int)==0)with
  | false =>
   have F7:0<f.ro.length:=by
    rw[aB]at SU;have:¬((f.ro.length:Int)=0):=by simpa using SU
    omega
   nofun;refine(hR M9 f s ts _ hf hs ∅ (λt ht=>sx hf hs hr aJ hb ht (.inl F7)) Nu).imp ?_;rintro r Yo ⟨rfl,Nd⟩;nofun;exact⟨_,_,_,rfl,Ex.get Nd TJ⟩
  | true =>
   nofun;refine⟨s3,?_⟩;nofun;rw[show D.tup [D.str "come",D.int 0,D.int (10 ^ Int.toNat 9)]=dS cm from rfl,Np (sv cm (fw (i:=5) rfl)) Mn Nu,Eb]
   cases ha:ts.any hit with
   | false =>
    nofun
    refine(hR M9 f s ts _ hf hs ∅ (λt ht=>sx hf hs hr aJ hb ht (.inr λz=>by
     have:=EU.mp ha t ht;rw[z]at this;exact this Jd)) Nu).imp λr Yo ⟨e,Nd⟩=>?_
    subst e;nofun;exact⟨_,_,_,rfl,Ex.get Nd TJ⟩
   | true =>
    nofun;rw[fu Nu];refine uB (ds:=ts.map dS) lN (by decide) (pV Nu) (by rw[aB];exact bJ (show _<=61 by omega) (by decide)) ?_ ?_ (rJ Nu)
    ·intro i M' d hd fM;nofun;refine⟨s3,?_⟩;show ur .ne (.d d) (.d (dS cm)) M' _;rw[<- mj,Nq (Mn d (fw hd)) (sv cm (fw (i:=5) rfl))]
     cases hq:PyData.eqv (pq d) (pq (dS cm))with
     | true=>exact⟨by unfold lN;rw[aF hq],fM⟩
     | false=>exact⟨by unfold lN;rw[aP (by rw[hq];decide)],fM⟩
    ·intro M' fM;rw[oG];nofun
     refine(hR _ f s (ts.filter λt=>!hit t) _ hf hs (by have:=List.length_filter_le (λt=>!hit t) ts;omega) (λt ht=>sx hf hs hr aJ hb (yY.mp ht).1 (.inr λz=>by
      have:=(yY.mp ht).2;rw[z,show hit cm=true from Jd]at this;cases this)) av).imp λr Yo ⟨e,Nd⟩=>?_
     subst e;nofun;exact⟨_,_,_,rfl,Ex.get Nd (aG (Ex.get fM TJ))⟩
 ·rintro ρ M6 ⟨o4,o5,o6,rfl,SS⟩;nofun
end dB
end
section
namespace dB
open L2 Ev
open PySem PySem.Spec PyProof.Rows
theorem Ed:∀ns:List Int,ns.length<=63->∃M,RK [.ls (ns.map D.int)] []=.ok (.d (.bl true)) M:=by
 intro ns kC;have h0:∀l,oq (cz (c1 l) 0):=λl=>Mu;have Aj:∀l,xk (cz (c1 l) 0):=λl=>MU;have h1:∀l,rX (cz (c2 l) 1):=λl=>Mx (h0 _);have Ak:∀l,xl (cz (c2 l) 1):=λl=>MV (h0 _) (Aj _);have h2:∀l,DN (cz (c3 l) 2):=λl=>Ra;have Ee:∀l,D3 (cz (c3 l) 2):=λl=>RE;have h3:∀l,ki (cz (c4 l) 3):=λl=>Hh;have h4:∀l,rY (cz (c5 l) 4):=λl=>Mz;have h5:∀l,wZ (cz (c6 l) 5):=λl=>My (h1 _) (h2 _) (h0 _);have Al:∀l,xm (cz (c6 l) 5):=λl=>MW (h1 _) (Ak _) (Ee _);have h6:∀l,p_ (cz (c7 l) 6):=λl=>Q_;have h7:∀l,MB (cz (c8 l) 7):=λl=>VZ (h4 _);have h8:∀l,Ae (cz (c9 l) 8):=λl=>V0 (h5 _) (h3 _) (h7 _);have HM:∀l,D4 (cz (c9 l) 8):=λl=>V_ (Al _);have h9:∀l,w4 (cz (S2 l) 9):=λl=>MF (h4 _);have h10:∀l,DS (cz (S3 l) 10):=λl=>Ri;have h11:∀l,yG (cz (S4 l) 11):=λl=>Rj;have h12:∀l,iZ (cz (S5 l) 12):=λl=>Rn (h6 _) (h3 _) (h9 _) (h10 _) (h11 _);have xu:∀l,xo 63 (cz (S6 l) 13):=λl=>MZ (h8 _) (HM _) (h12 _);have Ef:∀l,Na 63 (cz (S7 l) 14):=λl=>Wb (xu _);have Ib:∀l,nV (cz (S8 l) 15):=λl=>QS;have Ez:∀l,d7 (cz (S9 l) 16):=λl=>Md;have h17:∀l,wH (cz (S_ l) 17):=λl=>Mf (Ez _);have h18:∀l,mz (cz (Ta l) 18):=λl=>Hd (Ez _);have h19:∀l,wJ (cz (Tc l) 19):=λl=>Mh (Ez _);have h20:∀l,rN (cz (Td l) 20):=λl=>Mi (Ez _) (h19 _);have h21:∀l,Dv (cz (Te l) 21):=λl=>Q4 (Ib _) (Ez _) (h17 _) (h18 _) (h20 _);have h22:∀l,mB (cz (Tf l) 22):=λl=>Hk;have Yp:∀l,ko (cz (Th l) 23):=λl=>Hs;have Wk:∀l,lu (cz (Ti l) 24):=λl=>MI (h22 _) (Yp _);have h25:∀l,p_ (cz (Tj l) 25):=λl=>Mt;have Yq:∀l,iZ (cz (Tn l) 26):=λl=>MM (Wk _) (h25 _);have h27:∀l,w8 (cz (To l) 27):=λl=>MJ (Ez _);have Xw:∀l,se (cz (Tp l) 28):=λl=>Hw (Ib _) (Ez _) (h27 _);have h29:∀l,xg (cz (Tq l) 29):=λl=>MS (Yp _) (Wk _) (Ez _);have h30:∀l,sj (cz (Wf l) 30):=λl=>HA (Ib _) (Ez _) (h29 _) (Yq _);have Eg:∀l,D5 (cz (Tr l) 31):=λl=>D6 (F:=We) (Ef []);have h32:∀l,Ni (cz (Tt l) 32):=λl=>Wg (Wk _) (Yq _);have h33:∀l,xr (cz (Tv l) 33):=λl=>Nk (h32 _) (Eg _);have h34:∀l,Ea (cz (Tz l) 34):=λl=>RP (Ez _);obtain⟨r,M,e,q⟩:=nN (Nt (G:=cz (Tz [])) (h21 _) (Xw _) (h30 _) (Ib _) (h34 _) (h33 _) ns kC);subst q;exact⟨M,e⟩
end dB
end
section
namespace dB
open L2 Ev PySem PySem.Spec PyProof.Rows
theorem Yr{P:Params}{h:Heap}{mg:Str->Option Value}(X:(Kf P).In h)(G:h.Ns mainGlobals mg):∀b∈dm,mg b=none:=by
 have z:dm.all (λb=>match PySem.W.nsIn (Kf P) mainGlobals b with | some none=>true | _=>false)=true:=nofun;intro b hb;have q:=sQ.mp z b hb;split at q
 ·rename_i e;exact PySem.W.mg_none_of X G e
 ·cases q
noncomputable def xs:List (Str×Addr×Str):=[(("NoDeed" : Str),63,"number")]
theorem Je{P:Params}:sD (Kf P) 63 24 60 "number" := sD.of (show(Kf P).lookup 63=some (kl "NoDeed" 63 62 [(.ref 24)] ((.ref 24)::VE) [] (.ref 47) 234 242) by kernel_rfl) (nofun) (nofun) (nofun) (show(Kf P).lookup 24=some (kl "CutError" 24 23 [(.type "ValueError")] VE [(.ref 44),(.ref 63),(.ref 82),(.ref 101),(.ref 120),(.ref 139),(.ref 158),(.ref 177),(.ref 196),(.ref 215),(.ref 234)] (.ref 15) 189 197) by kernel_rfl) (nofun) (nofun) z6
theorem RT{P:Program}{w:World}{mg:Str->Option Value}{base:Heap}:dQ P w (Kf w.params) mg base Ig 1 60 (PySem.W.fnOf "__init__" "NoDeed.__init__" (fB Am) (cv Am) (aI Am) .none .none .none m5 none (.ref 59) .none) ["self","number"] (KH (Kf w.params) 63 24 60 "number"):=F6 (qM (show(Kf w.params).lookup 60=some (fo (PySem.W.fnOf "__init__" "NoDeed.__init__" (fB Am) (cv Am) (aI Am) .none .none .none m5 none (.ref 59) .none)) by kernel_rfl) (nofun) (nofun)) (rE ⋯) rfl (.inl (nofun)) (.inl (nofun)) ⋯
theorem RU{P:Program}{w:World}{h base:Heap}{mg:Str->Option Value}(X:(Kf w.params).In h)(G:h.Ns mainGlobals mg):Xd P w (Kf w.params) mg base xs:=by
 intro x a f e;unfold xs at e;rw[e_]at e;split at e
 ·rename_i q
  obtain rfl:=eq_of_beq q;cases e;exact⟨_,_,_,_,_,Je,(show(Kf w.params).lookup 60=some (fo (PySem.W.fnOf "__init__" "NoDeed.__init__" (fB Am) (cv Am) (aI Am) .none .none .none m5 none (.ref 59) .none)) by kernel_rfl),rfl,RT,.all (λus hl=>match us,hl with | [_,_],_=>rfl),gQ X G (nofun)⟩
 ·cases e
abbrev AL(l:PySem.W.OpenLaw)(w:World)(mg:Str->Option Value)(base:Heap)(i:Nat):=All l.prog w (Kf w.params) mg base i (fs.take i)
theorem all_mk{l:PySem.W.OpenLaw}{w:World}{h:Heap}{mg:Str->Option Value}{fa:Addr}(X:(Kf w.params).In h)(G:h.Ns mainGlobals mg) (hfa:mg "law" = some (.ref fa)):∃fd:FuncData,(∀(s:Shared)(v:Value),BindsTo s fd ⟨[v],[]⟩ [("_law_script",v)])/\∀base:Heap,(Kf w.params).In base->base.Ns mainGlobals mg->dQ l.prog w (Kf w.params) mg base (sC l.prog w) 36 fa fd ["_law_script"] (Ax (Kf w.params) 1 RK):=by
 have W:Cw (Kf w.params) h mg gs:=⟨X,G,Yr X G,Lz X G (nofun)⟩;cases hfa.symm.trans (gQ X G (show PySem.W.nsIn (Kf w.params) mainGlobals "law" = some (some (.ref 470)) by kernel_rfl));refine⟨fq "law" JA m4 (.ref 469),λs v=>.of_eq rfl,λbase _ _=>?_⟩;have A0:AL l w mg base 0 []:=All.nil;have A1:AL l w mg base 1 (c1 []):=nx "is_whole" 243 Wm n0 ["thing"] b0 m0 (.ref 242) W A0;have A2:AL l w mg base 2 (c2 []):=nx "is_below" 250 Wn n1 ["thing","bound"] b1 m0 (.ref 249) W A1;have A3:AL l w mg base 3 (c3 []):=nx "is_sign" 257 Wo n2 ["thing"] b2 m0 (.ref 256) W A2;have A4:AL l w mg base 4 (c4 []):=nx "answer" 264 Wq n3 ["form","m","state","cause"] b3 m1 (.ref 263) W A3;have A5:AL l w mg base 5 (c5 []):=nx "waits" 271 Wr n4 ["stand","road"] b4 m2 (.ref 270) W A4;have A6:AL l w mg base 6 (c6 []):=nx "is_plain" 278 Ws n5 ["form","thing"] b5 m3 (.ref 277) W A5;have A7:AL l w mg base 7 (c7 []):=nx "machine_of" 285 Wt n6 ["form","deed"] b6 m3 (.ref 284) W A6;have A8:AL l w mg base 8 (c8 []):=nx "may_come" 297 Wu n7 ["form","stand","road"] b7 m3 (.ref 296) W A7;have A9:AL l w mg base 9 (c9 []):=nx "can" 292 Wv n8 ["form","stand","thing"] b8 m3 (.ref 291) W A8;have A10:AL l w mg base 10 (S2 []):=nx "cause_of" 311 Ww n9 ["stand","deed"] b9 m3 (.ref 310) W A9;have A11:AL l w mg base 11 (S3 []):=nx "less_letter" 316 N4 n10 ["letters","k"] XU m3 (.ref 315) W A10;have A12:AL l w mg base 12 (S4 []):=nx "more_letter" 323 N5 n11 ["letters","sign"] XW m3 (.ref 322) W A11;have A13:AL l w mg base 13 (S5 []):=nx "outcome" 304 N6 n12 ["form","stand","deed"] XX m3 (.ref 303) W A12;have A14:AL l w mg base 14 (S6 []):=ZW "steps" 337 N7 n13 ["form","stand","deeds"] XY m3 (.ref 336) W A13 (RU X G) (by decide);have A15:AL l w mg base 15 (S7 []):=nx "run" 330 N8 n14 ["form","stand","deeds"] XZ m3 (.ref 329) W A14;have A16:AL l w mg base 16 (S8 []):=nx "_law_well" 344 N9 n15 ["_law_script","_law_k"] X2 m4 (.ref 343) W A15;have A17:AL l w mg base 17 (S9 []):=nx "_law_draw" 351 N_ n16 ["_law_well_here","_law_many"] X3 m4 (.ref 350) W A16;have A18:AL l w mg base 18 (S_ []):=nx "_law_roads" 358 Oa n17 ["_law_well_here","_law_machines"] X4 m4 (.ref 357) W A17;have A19:AL l w mg base 19 (Ta []):=nx "_law_states" 365 Ob n18 ["_law_well_here"] X5 m4 (.ref 364) W A18;have A20:AL l w mg base 20 (Tc []):=nx "_law_sends" 372 Oc n19 ["_law_well_here","_law_ways"] X6 m4 (.ref 371) W A19;have A21:AL l w mg base 21 (Td []):=nx "_law_moves" 379 Od n20 ["_law_well_here","_law_some","_law_ways"] X7 m4 (.ref 378) W A20;have A22:AL l w mg base 22 (Te []):=nx "_law_form" 384 Oe n21 ["_law_script"] X8 m4 (.ref 383) W A21;have A23:AL l w mg base 23 (Tf []):=nx "_law_answer" 389 Of n22 ["_law_form_here","_law_m","_law_state","_law_cause"] X9 m4 (.ref 388) W A22;have A24:AL l w mg base 24 (Th []):=nx "_law_comes" 394 Og n23 ["_law_form_here","_law_stand_here"] X_ m4 (.ref 393) W A23;have A25:AL l w mg base 25 (Ti []):=nx "_law_answered" 401 Oh n24 ["_law_form_here","_law_stand_here","_law_deed"] Yb m4 (.ref 400) W A24;have A26:AL l w mg base 26 (Tj []):=nx "_law_machine" 408 Oi n25 ["_law_form_here","_law_deed"] Yc m4 (.ref 407) W A25;have A27:AL l w mg base 27 (Tn []):=nx "_law_done" 413 Oj n26 ["_law_form_here","_law_stand_here","_law_deed"] Yd m4 (.ref 412) W A26;have A28:AL l w mg base 28 (To []):=nx "_law_load" 420 Ol n27 ["_law_well_here","_law_order"] Ye m4 (.ref 419) W A27;have A29:AL l w mg base 29 (Tp []):=nx "_law_stand" 425 Om n28 ["_law_script","_law_form_here"] Yg m4 (.ref 424) W A28;have A30:AL l w mg base 30 (Tq []):=nx "_law_next" 430 Oo n29 ["_law_well_here","_law_form_here","_law_stand_here"] Yh m4 (.ref 429) W A29;have Ys:AL l w mg base 31 (Wf []):=nx "_law_deeds" 437 Oq n30 ["_law_script","_law_form_here","_law_stand_here","_law_most"] Yi m4 (.ref 436) W A30;obtain⟨F31,e31,⟨x31,y31,z31,v31,w31,k31,b31⟩⟩:=Ys.2 14 "run" 3 rfl;cases e31;have T31:dQ l.prog w (Kf w.params) mg base (sC l.prog w) 32 444 (fq "_law_told" Jz m4 (.ref 443)) ["_law_form_here","_law_stand_here","_law_deeds_here"] (Ax (Kf w.params) 3 Yj):=Hb (l:=[("NoCut",⟨291,26,291,31⟩,82),("NoForm",⟨291,33,291,39⟩,44),("NoLine",⟨291,41,291,47⟩,139),("NoNumbers",⟨291,49,291,58⟩,120),("NoRow",⟨291,60,291,65⟩,234),("NoRun",⟨291,67,291,72⟩,196),("NoTaking",⟨291,74,291,82⟩,101),("NoText",⟨291,84,291,90⟩,215),("NoWorld",⟨291,92,291,99⟩,177),("NoZigzag",⟨291,101,291,109⟩,158)]) (B:=24) (C:=63) (qM (show(Kf w.params).lookup 444=some (fo (fq "_law_told" Jz m4 (.ref 443))) by kernel_rfl) (nofun) (nofun)) (rE ⋯) rfl ⋯ (Yr X G _ ⋯) (PySem.W.mg_none_of X G (nofun)) (gQ X G (nofun)) (gQ X G (nofun)) (by simp only[List.forall_mem_cons];refine⟨gQ X G (nofun),gQ X G (nofun),gQ X G (nofun),gQ X G (nofun),gQ X G (nofun),gQ X G (nofun),gQ X G (nofun),gQ X G (nofun),gQ X G (nofun),gQ X G (nofun),λ_ z=>nomatch z⟩) (by decide) Je (nofun) (nofun) (nofun) (nofun) (nofun) v31 w31 k31 b31;have A32:AL l w mg base 32 (Tr []):=Ys.snoc ⟨_,_,_,T31,gQ X G (nofun),nofun,.all (λus hl=>match us,hl with | [_,_,_],_=>rfl)⟩;have A33:AL l w mg base 33 (Tt []):=nx "_law_due" 451 Ot n32 ["_law_form_here","_law_stand_here","_law_deeds_here"] Ts m4 (.ref 450) W A32;have A34:AL l w mg base 34 (Tv []):=nx "_law_right" 458 Ou n33 ["_law_form_here","_law_stand_here","_law_deeds_here"] Tu m4 (.ref 457) W A33;have A35:AL l w mg base 35 (Tz []):=nx "_law_bent" 465 Ov n34 ["_law_well_here","_law_deeds_here"] Tw m4 (.ref 464) W A34;exact C7 "law" 470 JA n35 ["_law_script"] TB m4 (.ref 469) W A35 (nofun) (nofun) (nofun) ⋯
theorem Nv{K:Frag}{H:Hp}{a:Addr}{xs:List V}(hO:FO H)(h:fN K H a xs):tX K H a xs:=by
 rcases h with(h | ⟨o,h⟩) | h
 ·rcases hO a with q | ⟨o,ys,q⟩
  ·rw[q]at h;cases h
  ·rw[q]at h;cases h
 ·exact .inl ⟨o,h⟩
 ·exact .inr h
theorem uY{K:Frag}{H:Hp}{ads:List Addr}:∀(ns:List Int),aV K ads H (ns.map D.int) (ns.map V.int)
 | []=>by unfold aV;rfl
 | i::ns=>by
  show aV K ads H (D.int i::ns.map D.int) (V.int i::ns.map V.int);unfold aV;exact⟨_,_,rfl,by unfold RD;rfl,uY ns⟩
theorem walk {l : PySem.W.OpenLaw} {q : Program} {loose : List Str} {XP : (Str -> Option Value) -> Heap -> Prop} {YP : World -> Heap -> Prop} {d : DefRec} {K : Params -> Frag} (Wl : ∀ ns : List Int, ns.length <= 63 -> ∃ M, RK [.ls (ns.map D.int)] [] = .ok (.d (.bl true)) M) (hn : l.most = some 63) (Ie : d.params.defaults = [])
    (hY:∀(w:World)(h:Heap),YP w h->(K w.params).In h)
    (F:∀(w:World)(mg:Str->Option Value)(fa:Addr)(h:Heap),(K w.params).In h->h.Ns mainGlobals mg->mg d.name=some (.ref fa) ->
      ∃fd:FuncData,(∀(s:Shared)(u:Value),BindsTo s fd ⟨[u],[]⟩ [("_law_script",u)])/\∀base:Heap,(K w.params).In base->base.Ns mainGlobals mg->dQ l.prog w (K w.params) mg base (sC l.prog w) 36 fa fd ["_law_script"] (Ax (K w.params) 1 RK)) :
    PySem.W.WalkO q loose XP YP l.row.toRowW d [] (λf vs=>PySem.call f vs) :=
  L2.FP (n:=63) (k:=36) (x := "_law_script") (CX:=λw=>sC l.prog w) (sp:=λw=>Ax (K w.params) 1 RK) hn (by decide) Ie ⟨rfl,by decide,by decide,rfl⟩ hY F (λw H a ns hl hO hS=>by
    obtain⟨M,hM⟩:=Wl ns hl;refine⟨[],[],[.ls (ns.map D.int)],⟨List.nodup_nil,rfl,λn o a e _=>by simp at e⟩,.one ?_,rfl,?_⟩
    · unfold RD;exact⟨a,_,rfl,Nv hO hS,uY ns⟩
    · rw[hM];intro v H' ar _ _ r;have r:RD (K w.params) ar H' (.bl true) v:=r;unfold RD at r;exact r) λ_ _ _ _ _ ⟨_,_,_,_,_,_,_,_,_,_,_,_,_,z⟩=>z
theorem Nw:PySem.W.OpenLaw.wellSaid PySem.Challenge.rw_cutstand_k06_runs=true:=nofun
end dB
end
end
open PySem PySem.W PyProof.Rows
set_option maxRecDepth 100000 in
set_option maxHeartbeats 0 in
theorem PySem.Challenge.cw_cutstand_k06_runs_holds : PySem.Challenge.rw_cutstand_k06_runs.Holds := by
 refine holds_law dB.Nw λNw=>?_;refine holds_open (q:=dB.vw) (loose:=[]) (Xt:=λs=>xlAt dB.vw [] s&&recOk [] s) (XP:=XL dB.vw []) (Yf:=Hook.obs dB.hk) (Ya:=Hook.val dB.hk) (YP:=Hook.says dB.hk) (N:=8274) dB.Yx (Hook.of dB.hk) (Hook.keeps dB.hk) (λs e=>xl_of s (Bool.and_eq_true_iff.mp e).1) XL.keeps (by rfl) (by rfl) (by rfl) (λs e=>recFacts_of (Bool.and_eq_true_iff.mp e).2) (by rfl) Nw ⋯ ⟨rfl,rfl,rfl,rfl,rfl,⋯⟩ ?hw ?hc
 case hw=>w_witness2
 case hc=>exact dB.walk (l:=PySem.Challenge.rw_cutstand_k06_runs) (K:=dB.Kf) dB.Ed rfl rfl (λw h Y=>kIn_of Y) λw mg fa h KX G Pj=>dB.all_mk KX G Pj
