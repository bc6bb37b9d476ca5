import PyProof.Rows.All
import KE.KDictOf
import KE.KIsAll
import KE.KEqDict
import KE.KFind
import KE.KxWritten
import Open.Tree
import PySem.Challenge.RW_cutstand_k05_deeds_done
set_option Elab.async false
set_option linter.all false
set_option maxRecDepth 100000
set_option maxHeartbeats 4000000
open PySem.W (Frag)
local macro_rules
  | `(⋯) => `(by decide +kernel)
  | `(nofun) => `(by kernel_rfl)
  | `(∅) => `(by omega)
  | `(tactic| omega) => `(tactic| first | with_reducible assumption | decide +kernel | lia | omega (config := {}))
abbrev aE:=@List.length_map
abbrev aK:=@Bool.and_eq_true
abbrev au:=@PySem.wpAny_bind
abbrev a6:=@Bool.false_ne_true
abbrev bV:=@List.getElem?_eq_some_iff
abbrev aL:=@Nat.le_refl
abbrev cE:=@List.getElem?_eq_getElem
abbrev aO:=@PySem.wpAny_pure
abbrev cT:=@PySem.Heap.get?_push_of_some
abbrev bS:=@List.mem_cons
abbrev bL:=@PySem.Heap.lt_size
abbrev cO:=@List.size_toArray
abbrev dC:=@List.mem_cons_of_mem
abbrev dz:=@List.getElem?_map
abbrev cU:=@Option.some.inj
abbrev aS:=@if_pos
abbrev eg:=@List.mem_cons_self
abbrev cJ:=@Nat.le_trans
abbrev a8:=@if_neg
abbrev eZ:=@Nat.lt_of_lt_of_le
abbrev eF:=@List.lookup_cons
abbrev eh:=@decide_eq_false
abbrev fB:=@List.length_append
abbrev jq:=@List.getElem?_append_left
abbrev gQ:=@List.mem_of_getElem?
abbrev e5:=@decide_eq_true
abbrev gk:=@PySem.wpAny_loadPart_at
abbrev ej:=@Nat.ne_of_lt
abbrev kR:=@List.getD_eq_getElem?_getD
abbrev gm:=@List.mem_nil_iff
abbrev fX:=@List.mem_append
abbrev jr:=@List.getElem?_set_ne
abbrev ic:=@Bool.not_eq_true'
abbrev j9:=@List.mem_append_right
abbrev fC:=@List.map_cons
abbrev kS:=@List.getElem?_set_self
abbrev cK:=@Ne.symm
abbrev fY:=@PySem.W.mg_of
abbrev j_:=@List.filterMap_cons
abbrev ie:=@List.find?_cons
abbrev iI:=@List.length_take
abbrev kT:=@PySem.Heap.get?_push_size
abbrev kU:=@PySem.mem_of_lookup
abbrev qw:=@List.getElem?_append_right
abbrev jt:=@List.length_set
abbrev mL:=@beq_eq_false_iff_ne
abbrev dD:=@if_true
abbrev wN:=@PyProof.Rows.slot_tuple_getitem
abbrev iJ:=@Nat.lt_irrefl
abbrev kc:=@PySem.W.kia_one
abbrev kW:=@List.length_cons
abbrev qx:=@PySem.Heap.get?_update_other
abbrev mM:=@PySem.wpAny_newObj_type
abbrev qy:=@PySem.F.attrBase_ValueError
abbrev fh:=@or_false
abbrev gR:=@beq_iff_eq
abbrev wQ:=@Array.getElem?_eq_some_iff
abbrev sV:=@PySem.PyData.canLayAll0.eq_1
abbrev sW:=@PySem.PyData.canLayAll0.eq_2
abbrev oi:=@PySem.wpAny_truthy_bool
abbrev om:=@decide_eq_true_eq
abbrev qz:=@PySem.PyData.canLay0.eq_3
abbrev wR:=@Option.isSome_iff_exists
abbrev qA:=@PySem.F.store_ValueError
abbrev oo:=@List.take_length
abbrev kg:=@List.mem_map
abbrev kX:=@PySem.wpAny_holding
abbrev sX:=@PySem.PyData.depthAll.eq_1
abbrev sY:=@PySem.PyData.depthAll.eq_2
abbrev qB:=@Option.some.injEq
abbrev qC:=@PySem.PyData.depth.eq_6
abbrev sZ:=@Array.length_toList
abbrev ju:=@PySem.wpAny_mono
abbrev qD:=@beq_self_eq_true
abbrev qE:=@List.getElem_mem
abbrev yK:=@List.isEmpty_eq_false_iff
abbrev kY:=@PySem.wpAny_field
abbrev mO:=@Nat.le_of_lt
abbrev qF:=@List.append_nil
abbrev mP:=@List.map_nil
abbrev wU:=@List.mem_of_mem_take
abbrev qG:=@List.map_append
abbrev wV:=@List.replicate_succ
abbrev wW:=@PySem.PyData.canLay0.eq_4
abbrev wX:=@PySem.PyData.canLay0.eq_6
abbrev s_:=@List.all_eq_true
abbrev tf:=@Option.map_some
abbrev yL:=@PySem.Heap.get?_update_self
abbrev jv:=@and_self
abbrev wY:=@PySem.PyData.depth.eq_7
abbrev wZ:=@PySem.PyData.depth.eq_2
abbrev yM:=@PySem.F.excBase_ValueError
abbrev Cs:=@List.getElem?_eq_none_iff
abbrev yN:=@List.getElem?_range
abbrev w6:=@Bool.or_eq_true
abbrev Gr:=@List.eq_nil_of_length_eq_zero
abbrev yO:=@List.flatten_cons
abbrev yP:=@List.append_assoc
abbrev yQ:=@Nat.le_of_succ_le
abbrev tj:=@Nat.le_of_eq
abbrev w8:=@PySem.Heap.size_push
abbrev Ct:=@Array.getElem?_toList
abbrev Cu:=@List.getElem?_eq_none
abbrev Cv:=@List.mem_append_left
abbrev qH:=@Nat.not_lt
abbrev Cy:=@List.mem_iff_getElem
abbrev Cz:=@PySem.codeAny_call_builtin
abbrev CA:=@Bool.or_eq_false_iff
abbrev yR:=@List.isEmpty_iff
abbrev w_:=@PySem.wpAny_standAt
abbrev tm:=@Int.le_refl
abbrev yS:=@PySem.wpAny_execs_nil
abbrev yT:=@PySem.wpAny_passesOwn
abbrev yU:=@List.nodup_cons
abbrev yV:=@List.length_nil
abbrev Gs:=@List.pairwise_iff_getElem
abbrev yW:=@PySem.PyData.eqv.eq_5
abbrev Gu:=@List.mem_of_find?_eq_some
abbrev oq:=@congrArg
abbrev CB:=@PySem.wpAny_Call_Name_kw
abbrev CD:=@PySem.tupleKind_room_in1
abbrev Gv:=@PySem.F.args_tuple_add_2
abbrev ou:=@if_false
abbrev Gw:=@PySem.F.slot_list_getattribute
abbrev CF:=@List.pairwise_cons
abbrev CG:=@Bool.false_eq_true
abbrev CH:=@Int.emod_lt_of_pos
abbrev CI:=@PySem.PyData.eqvAll.eq_1
abbrev yX:=@Bool.false_and
abbrev Gx:=@PySem.F.entry_tuple_add
abbrev Gy:=@Int.eq_ofNat_of_zero_le
abbrev CJ:=@of_decide_eq_true
abbrev CK:=@PySem.F.plainAttrs_list
abbrev xf:=@Nat.zero_le
abbrev Gz:=@PySem.F.slot_tuple_add
abbrev K0:=@List.findIdx?_eq_some_iff_getElem
abbrev GA:=@PySem.Heap.size_after_update
abbrev yY:=@Bool.true_and
abbrev yZ:=@PySem.Paired.length
abbrev y3:=@List.any_cons
abbrev CL:=@List.length_drop
abbrev CM:=@Nat.lt_succ_self
abbrev GB:=@List.length_replicate
abbrev GC:=@PySem.builtinLookup_eq_fast
abbrev GD:=@PySem.F.typeOf_object_class
abbrev oy:=@Iff.rfl
abbrev CN:=@List.mem_filter
abbrev GF:=@PySem.Heap.get?_none_of_le
abbrev y4:=@PySem.codeAny_mono
abbrev y6:=@Nat.lt_trans
abbrev y8:=@PySem.wpAny_typeOf
abbrev CO:=@Int.emod_nonneg
abbrev GG:=@List.mem_singleton
abbrev GH:=@PySem.W.ns_none_of
abbrev CP:=@Prod.mk.injEq
abbrev GI:=@List.any_eq_false
abbrev GJ:=@Option.isSome_map
abbrev GK:=@Int.toNat_natCast
abbrev GL:=@List.length_range
noncomputable section
section
namespace L2
open PySem PySem.Spec PyProof.Rows
noncomputable def eT(s:Stmt):Arguments:=match s with
 | .FunctionDef _ a _ _ _ _ _ _ _ _=>a
 | _=>{posonlyargs:=[],args:=[],vararg:=none,kwonlyargs:=[],kw_defaults:=[],kwarg:=none,defaults:=[]}
noncomputable def bZ(s:Stmt):List Stmt:=match s with
 | .FunctionDef _ _ b _ _ _ _ _ _ _=>b
 | _=>[]
noncomputable def aF(s:Stmt):Scope:=match s with
 | .FunctionDef _ _ _ _ _ _ sc _ _ _=>sc
 | _=>{kind:=.function,names:=[],isGenerator:=false,isCoroutine:=false}
abbrev VE:List Value:=[.type "ValueError",.type "Exception",.type "BaseException",.type "object"]
end L2
namespace Ev
open L2
open PySem PySem.Spec PyProof.Rows
abbrev fq(x:Str)(s:Stmt)(m c:Value):FuncData:=PySem.W.fnOf x x (eT s) (bZ s) (aF s) .none .none .none m none c .none
noncomputable def fo(f:FuncData):Obj:=⟨.type "function",none,.func f,#[]⟩
end Ev
namespace d5
open L2 Ev PySem PySem.Spec PyProof.Rows
noncomputable def cg(i:Nat):Stmt:=PySem.Challenge.pw_cutstand_k05_deeds_done.main.body.getD i (.Pass ⟨0,0,0,0⟩)
abbrev SX:=cg 14
abbrev SY:=cg 15
abbrev S0:=cg 16
abbrev S1:=cg 18
abbrev S2:=cg 20
abbrev S3:=cg 22
abbrev S4:=cg 23
abbrev S5:=cg 25
abbrev S6:=cg 24
abbrev S7:=cg 28
abbrev K1:=cg 29
abbrev K2:=cg 30
abbrev K3:=cg 27
abbrev K4:=cg 26
abbrev K5:=cg 32
abbrev K6:=cg 33
abbrev K7:=cg 34
abbrev K8:=cg 35
abbrev K9:=cg 36
abbrev K_:=cg 37
abbrev La:=cg 38
abbrev Lb:=cg 39
abbrev Lc:=cg 40
abbrev Ld:=cg 41
abbrev Le:=cg 42
abbrev Lf:=cg 43
abbrev Lg:=cg 44
abbrev Lh:=cg 45
abbrev Li:=cg 46
abbrev GN:=cg 47
abbrev Lj:=cg 48
abbrev Lk:=cg 49
abbrev Ll:=cg 50
abbrev GO:=cg 51
noncomputable def UR:Stmt->Stmt
 | .ClassDef _ _ _ b _ _ _ _ _ _ _=>b.getD 0 (.Pass ⟨0,0,0,0⟩)
 | s=>s
abbrev yx:=UR (cg 3)
abbrev m0:Value:=(.str "cutstand.kinds" 498)
abbrev m1:Value:=(.str "cutstand.forms" 522)
abbrev m2:Value:=(.str "cutstand.stands" 535)
abbrev m3:Value:=(.str "cutstand.plain" 545)
abbrev m4:Value:=(.str "law_cutstand_k05_deeds_done" 625)
abbrev kl(nm:Str)(C N:Addr)(bs bm sub:List Value)(k0:Value)(t2 t3:Nat):Obj:=excClassObj nm nm C N bs bm true [] sub false none none (some k0) none (some (.str nm t2)) (some (.str nm t3)) (some (.bool true)) "ValueError.__new__"
abbrev m5:Value:=(.str "cutstand.errors" 187)
noncomputable def en(P:Params)(k:Str)(t:Nat)(v:Value):DictEntry:=⟨PyData.keyHash P k,.str k t,v⟩
noncomputable def co(a:Array Value):Obj:=⟨.type "code",none,.fields a,#[]⟩
def cp(n:Nat):Value:=.str "/claim/cut.py" n
def iv(n:Nat):Value:=.int n 0
def Kf(P:Params):Frag:=[(3,⟨(.type "dict"),none,.dict #[en P "__name__" 165 (.str "law_cutstand_k05_deeds_done" 625),en P "__doc__" 166 .none,en P "__package__" 167 .none,en P "__loader__" 168 (.builtin "__main__.__loader__#opaque"),en P "__spec__" 169 .none,en P "__annotations__" 170 (.ref 6),en P "__builtins__" 171 (.ref 4),en P "__file__" 173 (cp 172),en P "__cached__" 174 .none,en P "CutError" 206 (.ref 24),en P "NoForm" 233 (.ref 44),en P "NoDeed" 258 (.ref 63),en P "NoCut" 285 (.ref 82),en P "NoTaking" 312 (.ref 101),en P "NoNumbers" 339 (.ref 120),en P "NoLine" 368 (.ref 139),en P "NoZigzag" 395 (.ref 158),en P "NoWorld" 422 (.ref 177),en P "NoRun" 447 (.ref 196),en P "NoText" 472 (.ref 215),en P "NoRow" 497 (.ref 234),en P "is_whole" 506 (.ref 243),en P "is_below" 514 (.ref 250),en P "is_sign" 521 (.ref 257),en P "answer" 534 (.ref 264),en P "waits" 544 (.ref 271),en P "is_plain" 554 (.ref 278),en P "machine_of" 562 (.ref 285),en P "can" 571 (.ref 292),en P "may_come" 577 (.ref 297),en P "done" 586 (.ref 304),en P "outcome" 602 (.ref 311),en P "cause_of" 610 (.ref 318),en P "less_letter" 616 (.ref 323),en P "more_letter" 624 (.ref 330),en P "_law_well" 635 (.ref 337),en P "_law_draw" 647 (.ref 344),en P "_law_roads" 660 (.ref 351),en P "_law_states" 671 (.ref 358),en P "_law_sends" 682 (.ref 365),en P "_law_moves" 699 (.ref 372),en P "_law_form" 705 (.ref 377),en P "_law_answer" 711 (.ref 382),en P "_law_comes" 717 (.ref 387),en P "_law_answered" 730 (.ref 394),en P "_law_machine" 738 (.ref 401),en P "_law_done" 744 (.ref 406),en P "_law_load" 757 (.ref 413),en P "_law_stand" 763 (.ref 418),en P "_law_next" 769 (.ref 423),en P "_law_told" 780 (.ref 430),en P "_law_any" 793 (.ref 437),en P "_law_can" 802 (.ref 444),en P "_law_right" 814 (.ref 451),en P "law" 827 (.ref 458)] 55,#[]⟩),(242,co #[(.str "is_whole" 500),(.str "is_whole" 501),(cp 502),(iv 57),(iv 1),(iv 0),(iv 0),(iv 3),(.ref 237),(.bool true),(iv 181),(.ref 238),.none,(.ref 239),(.ref 240),(.ref 241),(iv 504),(iv 57),(cp 505)]),(243,fo (fq "is_whole" SX m0 (.ref 242))),(249,co #[(.str "is_below" 507),(.str "is_below" 508),(cp 509),(iv 59),(iv 2),(iv 0),(iv 0),(iv 3),(.ref 244),(.bool true),(iv 181),(.ref 245),.none,(.ref 246),(.ref 247),(.ref 248),(iv 512),(iv 59),(cp 513)]),(250,fo (fq "is_below" SY m0 (.ref 249))),(256,co #[(.str "is_sign" 515),(.str "is_sign" 516),(cp 517),(iv 61),(iv 1),(iv 0),(iv 0),(iv 3),(.ref 251),(.bool true),(iv 181),(.ref 252),.none,(.ref 253),(.ref 254),(.ref 255),(iv 519),(iv 61),(cp 520)]),(257,fo (fq "is_sign" S0 m0 (.ref 256))),(263,co #[(.str "answer" 524),(.str "answer" 525),(cp 526),(iv 64),(iv 4),(iv 0),(iv 0),(iv 3),(.ref 258),(.bool true),(iv 181),(.ref 259),.none,(.ref 260),(.ref 261),(.ref 262),(iv 532),(iv 64),(cp 533)]),(264,fo (fq "answer" S1 m1 (.ref 263))),(270,co #[(.str "waits" 537),(.str "waits" 538),(cp 539),(iv 72),(iv 2),(iv 0),(iv 0),(iv 3),(.ref 265),(.bool true),(iv 181),(.ref 266),.none,(.ref 267),(.ref 268),(.ref 269),(iv 542),(iv 72),(cp 543)]),(271,fo (fq "waits" S2 m2 (.ref 270))),(277,co #[(.str "is_plain" 547),(.str "is_plain" 548),(cp 549),(iv 75),(iv 2),(iv 0),(iv 0),(iv 3),(.ref 272),(.bool true),(iv 181),(.ref 273),.none,(.ref 274),(.ref 275),(.ref 276),(iv 552),(iv 75),(cp 553)]),(278,fo (fq "is_plain" S3 m3 (.ref 277))),(284,co #[(.str "machine_of" 555),(.str "machine_of" 556),(cp 557),(iv 83),(iv 2),(iv 0),(iv 0),(iv 3),(.ref 279),(.bool true),(iv 181),(.ref 280),.none,(.ref 281),(.ref 282),(.ref 283),(iv 560),(iv 83),(cp 561)]),(285,fo (fq "machine_of" S4 m3 (.ref 284))),(291,co #[(.str "can" 563),(.str "can" 564),(cp 565),(iv 87),(iv 3),(iv 0),(iv 0),(iv 3),(.ref 286),(.bool true),(iv 181),(.ref 287),.none,(.ref 288),(.ref 289),(.ref 290),(iv 569),(iv 87),(cp 570)]),(292,fo (fq "can" S6 m3 (.ref 291))),(296,co #[(.str "may_come" 572),(.str "may_come" 573),(cp 574),(iv 95),(iv 3),(iv 0),(iv 0),(iv 3),(.ref 293),(.bool true),(iv 181),(.ref 294),.none,.none,.none,(.ref 295),(iv 575),(iv 95),(cp 576)]),(297,fo (fq "may_come" S5 m3 (.ref 296))),(303,co #[(.str "done" 578),(.str "done" 579),(cp 580),(iv 100),(iv 3),(iv 0),(iv 0),(iv 3),(.ref 298),(.bool true),(iv 181),(.ref 299),.none,(.ref 300),(.ref 301),(.ref 302),(iv 584),(iv 100),(cp 585)]),(304,fo (fq "done" K4 m3 (.ref 303))),(310,co #[(.str "outcome" 587),(.str "outcome" 588),(cp 589),(iv 104),(iv 3),(iv 0),(iv 0),(iv 3),(.ref 305),(.bool true),(iv 181),(.ref 306),.none,(.ref 307),(.ref 308),(.ref 309),(iv 600),(iv 104),(cp 601)]),(311,fo (fq "outcome" K3 m3 (.ref 310))),(317,co #[(.str "cause_of" 603),(.str "cause_of" 604),(cp 605),(iv 118),(iv 2),(iv 0),(iv 0),(iv 3),(.ref 312),(.bool true),(iv 181),(.ref 313),.none,(.ref 314),(.ref 315),(.ref 316),(iv 608),(iv 118),(cp 609)]),(318,fo (fq "cause_of" S7 m3 (.ref 317))),(322,co #[(.str "less_letter" 611),(.str "less_letter" 612),(cp 613),(iv 124),(iv 2),(iv 0),(iv 0),(iv 3),(.ref 319),(.bool true),(iv 181),(.ref 320),.none,.none,.none,(.ref 321),(iv 614),(iv 124),(cp 615)]),(323,fo (fq "less_letter" K1 m3 (.ref 322))),(329,co #[(.str "more_letter" 617),(.str "more_letter" 618),(cp 619),(iv 126),(iv 2),(iv 0),(iv 0),(iv 3),(.ref 324),(.bool true),(iv 181),(.ref 325),.none,(.ref 326),(.ref 327),(.ref 328),(iv 622),(iv 126),(cp 623)]),(330,fo (fq "more_letter" K2 m3 (.ref 329))),(336,co #[(.str "_law_well" 627),(.str "_law_well" 628),(cp 629),(iv 129),(iv 2),(iv 0),(iv 0),(iv 3),(.ref 331),(.bool true),(iv 181),(.ref 332),.none,(.ref 333),(.ref 334),(.ref 335),(iv 633),(iv 129),(cp 634)]),(337,fo (fq "_law_well" K5 m4 (.ref 336))),(343,co #[(.str "_law_draw" 636),(.str "_law_draw" 637),(cp 638),(iv 134),(iv 2),(iv 0),(iv 0),(iv 3),(.ref 338),(.bool true),(iv 181),(.ref 339),.none,(.ref 340),(.ref 341),(.ref 342),(iv 645),(iv 134),(cp 646)]),(344,fo (fq "_law_draw" K6 m4 (.ref 343))),(350,co #[(.str "_law_roads" 648),(.str "_law_roads" 649),(cp 650),(iv 144),(iv 2),(iv 0),(iv 0),(iv 3),(.ref 345),(.bool true),(iv 181),(.ref 346),.none,(.ref 347),(.ref 348),(.ref 349),(iv 658),(iv 144),(cp 659)]),(351,fo (fq "_law_roads" K7 m4 (.ref 350))),(357,co #[(.str "_law_states" 661),(.str "_law_states" 662),(cp 663),(iv 153),(iv 1),(iv 0),(iv 0),(iv 3),(.ref 352),(.bool true),(iv 181),(.ref 353),.none,(.ref 354),(.ref 355),(.ref 356),(iv 669),(iv 153),(cp 670)]),(358,fo (fq "_law_states" K8 m4 (.ref 357))),(364,co #[(.str "_law_sends" 672),(.str "_law_sends" 673),(cp 674),(iv 161),(iv 2),(iv 0),(iv 0),(iv 3),(.ref 359),(.bool true),(iv 181),(.ref 360),.none,(.ref 361),(.ref 362),(.ref 363),(iv 680),(iv 161),(cp 681)]),(365,fo (fq "_law_sends" K9 m4 (.ref 364))),(371,co #[(.str "_law_moves" 683),(.str "_law_moves" 684),(cp 685),(iv 167),(iv 3),(iv 0),(iv 0),(iv 3),(.ref 366),(.bool true),(iv 181),(.ref 367),.none,(.ref 368),(.ref 369),(.ref 370),(iv 697),(iv 167),(cp 698)]),(372,fo (fq "_law_moves" K_ m4 (.ref 371))),(376,co #[(.str "_law_form" 700),(.str "_law_form" 701),(cp 702),(iv 179),(iv 1),(iv 0),(iv 0),(iv 3),(.ref 373),(.bool true),(iv 181),(.ref 374),.none,.none,.none,(.ref 375),(iv 703),(iv 179),(cp 704)]),(377,fo (fq "_law_form" La m4 (.ref 376))),(381,co #[(.str "_law_answer" 706),(.str "_law_answer" 707),(cp 708),(iv 191),(iv 4),(iv 0),(iv 0),(iv 3),(.ref 378),(.bool true),(iv 181),(.ref 379),.none,.none,.none,(.ref 380),(iv 709),(iv 191),(cp 710)]),(382,fo (fq "_law_answer" Lb m4 (.ref 381))),(386,co #[(.str "_law_comes" 712),(.str "_law_comes" 713),(cp 714),(iv 196),(iv 2),(iv 0),(iv 0),(iv 3),(.ref 383),(.bool true),(iv 181),(.ref 384),.none,.none,.none,(.ref 385),(iv 715),(iv 196),(cp 716)]),(387,fo (fq "_law_comes" Lc m4 (.ref 386))),(393,co #[(.str "_law_answered" 718),(.str "_law_answered" 719),(cp 720),(iv 204),(iv 3),(iv 0),(iv 0),(iv 3),(.ref 388),(.bool true),(iv 181),(.ref 389),.none,(.ref 390),(.ref 391),(.ref 392),(iv 728),(iv 204),(cp 729)]),(394,fo (fq "_law_answered" Ld m4 (.ref 393))),(400,co #[(.str "_law_machine" 731),(.str "_law_machine" 732),(cp 733),(iv 213),(iv 2),(iv 0),(iv 0),(iv 3),(.ref 395),(.bool true),(iv 181),(.ref 396),.none,(.ref 397),(.ref 398),(.ref 399),(iv 736),(iv 213),(cp 737)]),(401,fo (fq "_law_machine" Le m4 (.ref 400))),(405,co #[(.str "_law_done" 739),(.str "_law_done" 740),(cp 741),(iv 215),(iv 3),(iv 0),(iv 0),(iv 3),(.ref 402),(.bool true),(iv 181),(.ref 403),.none,.none,.none,(.ref 404),(iv 742),(iv 215),(cp 743)]),(406,fo (fq "_law_done" Lf m4 (.ref 405))),(412,co #[(.str "_law_load" 745),(.str "_law_load" 746),(cp 747),(iv 229),(iv 2),(iv 0),(iv 0),(iv 3),(.ref 407),(.bool true),(iv 181),(.ref 408),.none,(.ref 409),(.ref 410),(.ref 411),(iv 755),(iv 229),(cp 756)]),(413,fo (fq "_law_load" Lg m4 (.ref 412))),(417,co #[(.str "_law_stand" 758),(.str "_law_stand" 759),(cp 760),(iv 239),(iv 2),(iv 0),(iv 0),(iv 3),(.ref 414),(.bool true),(iv 181),(.ref 415),.none,.none,.none,(.ref 416),(iv 761),(iv 239),(cp 762)]),(418,fo (fq "_law_stand" Lh m4 (.ref 417))),(422,co #[(.str "_law_next" 764),(.str "_law_next" 765),(cp 766),(iv 248),(iv 3),(iv 0),(iv 0),(iv 3),(.ref 419),(.bool true),(iv 181),(.ref 420),.none,.none,.none,(.ref 421),(iv 767),(iv 248),(cp 768)]),(423,fo (fq "_law_next" Li m4 (.ref 422))),(429,co #[(.str "_law_told" 770),(.str "_law_told" 771),(cp 772),(iv 260),(iv 3),(iv 0),(iv 0),(iv 3),(.ref 424),(.bool true),(iv 181),(.ref 425),.none,(.ref 426),(.ref 427),(.ref 428),(iv 778),(iv 260),(cp 779)]),(430,fo (fq "_law_told" GN m4 (.ref 429))),(436,co #[(.str "_law_any" 781),(.str "_law_any" 782),(cp 783),(iv 271),(iv 3),(iv 0),(iv 0),(iv 3),(.ref 431),(.bool true),(iv 181),(.ref 432),.none,(.ref 433),(.ref 434),(.ref 435),(iv 791),(iv 271),(cp 792)]),(437,fo (fq "_law_any" Lj m4 (.ref 436))),(443,co #[(.str "_law_can" 794),(.str "_law_can" 795),(cp 796),(iv 279),(iv 3),(iv 0),(iv 0),(iv 3),(.ref 438),(.bool true),(iv 181),(.ref 439),.none,(.ref 440),(.ref 441),(.ref 442),(iv 800),(iv 279),(cp 801)]),(444,fo (fq "_law_can" Lk m4 (.ref 443))),(450,co #[(.str "_law_right" 803),(.str "_law_right" 804),(cp 805),(iv 285),(iv 3),(iv 0),(iv 0),(iv 3),(.ref 445),(.bool true),(iv 181),(.ref 446),.none,(.ref 447),(.ref 448),(.ref 449),(iv 812),(iv 285),(cp 813)]),(451,fo (fq "_law_right" Ll m4 (.ref 450))),(457,co #[(.str "law" 815),(.str "law" 816),(cp 817),(iv 292),(iv 1),(iv 0),(iv 0),(iv 3),(.ref 452),(.bool true),(iv 181),(.ref 453),.none,(.ref 454),(.ref 455),(.ref 456),(iv 825),(iv 292),(cp 826)]),(458,fo (fq "law" GO m4 (.ref 457))),(24,kl "CutError" 24 23 [(.type "ValueError")] VE [(.ref 44),(.ref 63),(.ref 82),(.ref 101),(.ref 120),(.ref 139),(.ref 158),(.ref 177),(.ref 196),(.ref 215),(.ref 234)] (.ref 15) 189 197),(44,kl "NoForm" 44 43 [(.ref 24)] ((.ref 24)::VE) [] (.ref 28) 207 215),(63,kl "NoDeed" 63 62 [(.ref 24)] ((.ref 24)::VE) [] (.ref 47) 234 242),(82,kl "NoCut" 82 81 [(.ref 24)] ((.ref 24)::VE) [] (.ref 66) 259 267),(101,kl "NoTaking" 101 100 [(.ref 24)] ((.ref 24)::VE) [] (.ref 85) 286 294),(120,kl "NoNumbers" 120 119 [(.ref 24)] ((.ref 24)::VE) [] (.ref 104) 313 321),(139,kl "NoLine" 139 138 [(.ref 24)] ((.ref 24)::VE) [] (.ref 123) 340 348),(158,kl "NoZigzag" 158 157 [(.ref 24)] ((.ref 24)::VE) [] (.ref 142) 369 377),(177,kl "NoWorld" 177 176 [(.ref 24)] ((.ref 24)::VE) [] (.ref 161) 396 404),(196,kl "NoRun" 196 195 [(.ref 24)] ((.ref 24)::VE) [] (.ref 180) 423 431),(215,kl "NoText" 215 214 [(.ref 24)] ((.ref 24)::VE) [] (.ref 199) 448 456),(234,kl "NoRow" 234 233 [(.ref 24)] ((.ref 24)::VE) [] (.ref 218) 473 481),(62,⟨.type "dict",none,.dict #[en P "__module__" 241 (.str "cutstand.errors" 187),en P "__firstlineno__" 245 (.int 9 244),en P "__init__" 253 (.ref 60),en P "__static_attributes__" 255 (.ref 61),en P "__doc__" 256 .none] 2,#[]⟩),(23,⟨.type "dict",none,.dict #[en P "__module__" 196 (.str "cutstand.errors" 187),en P "__firstlineno__" 200 (.int 2 199),en P "__static_attributes__" 201 (.ref 22),en P "__weakref__" 203 (.ref 25),en P "__doc__" 204 .none] 3,#[]⟩),(59,co #[(.str "__init__" 246),(.str "NoDeed.__init__" 247),(cp 248),(iv 11),(iv 2),(iv 0),(iv 0),(iv 3),(.ref 54),(.bool true),(iv 181),(.ref 55),.none,(.ref 56),(.ref 57),(.ref 58),(iv 251),(iv 11),(cp 252)]),(60,fo (PySem.W.fnOf "__init__" "NoDeed.__init__" (eT yx) (bZ yx) (aF yx) .none .none .none m5 none (.ref 59) .none))]
noncomputable def ads:List Addr:=[3,242,243,249,250,256,257,263,264,270,271,277,278,284,285,291,292,296,297,303,304,310,311,317,318,322,323,329,330,336,337,343,344,350,351,357,358,364,365,371,372,376,377,381,382,386,387,393,394,400,401,405,406,412,413,417,418,422,423,429,430,436,437,443,444,450,451,457,458,24,44,63,82,101,120,139,158,177,196,215,234,62,23,59,60]
def vw:Program:={PySem.Challenge.pw_cutstand_k05_deeds_done with main:={PySem.Challenge.pw_cutstand_k05_deeds_done.main with body:=[cg 1,cg 2,cg 3,cg 4,cg 5,cg 6,cg 7,cg 8,cg 9,cg 10,cg 11,cg 12,cg 14,cg 15,cg 16,cg 18,cg 20,cg 22,cg 23,cg 24,cg 25,cg 26,cg 27,cg 28,cg 29,cg 30,cg 32,cg 33,cg 34,cg 35,cg 36,cg 37,cg 38,cg 39,cg 40,cg 41,cg 42,cg 43,cg 44,cg 45,cg 46,cg 47,cg 48,cg 49,cg 50,cg 51]}}
def hk:PySem.W.Hook:=PySem.W.kHook Kf ads (λ_=>nofun)
open PySem.W in
theorem Lm{tb:String->Option Builtin}{p:Program}{w:World}{GP:Nat}{Qj:Option Value}:∀(n:Nat)(s:Shared)(t:Thread)(r:Flow×Shared×Code×Pos),segRun tb p w GP Qj 0 n s t=some r->topRun tb p w GP Qj n s t=some r.2.1
 | 0,s,t,r,h=>by rw[segRun.eq_def]at h;cases h
 | n+1,s,t,r,h=>by
  have te:through t=(endAt 0 t).isSome:=by
   unfold through endAt
   cases t.stack with
   | nil =>
    show(true&&_)=_;rw[yY];generalize t.cur=c
    cases c with
    | pure x=>cases x<;>rfl
    | _=>rfl
   | cons x l =>
    show(false&&_)=_;rw[yX];rfl
  rw[segRun.eq_def]at h;rw[topRun.eq_def];simp only at h⊢;rw[te]
  cases e:endAt 0 t with
  | some f=>rw[e]at h;cases h;rfl
  | none =>
   rw[e]at h;simp only[Option.isSome_none]at h⊢
   cases k:stepOk GP Qj t with
   | false=>rw[k]at h;cases h
   | true =>
    rw[k]at h;simp only at h⊢
    cases q:step (denote tb) p w s t with
    | go s' t'=>rw[q]at h;exact Lm n s' t' r h
    | halt o s=>rw[q]at h;cases h
open PySem.W in
noncomputable def GQ(l:List Obj):BT:=(l.foldl (λ(q:BT×Nat) o=>(q.1.ins q.2 o,q.2+1)) (BT.nil,0)).1
open PySem.W in
def Ln(s:Shared):SharedT:=⟨GQ s.heap.objs.toList,s.heap.objs.size,s.heap.life,s.gens,s.drawn,s.toks,s.os⟩
open PySem.W in
def y9(p:Program)(w:World)(N:Nat):Option (Shared×SharedT):=(fencedOpening treeTable p w N).bind λs=>(segRunT treeTable p w s.heap.objs.size (s.heap.nsMap mainGlobals (Str.ofString "__annotations__")) 0 N (Ln s) (topStub p)).map λr=>(s,r.2.1)
open PySem.W in
theorem GR{p q:Program}{Xt:Shared->Bool}{α:Type}{Yf:Shared->α}{Ya:World->α}{N:Nat}(hA:∀w,(y9 p w N).map (λs=>(openSeen q [] (importedModules p.main.body) Xt true s.2.abs,Yf s.2.abs))=some (openGood q [],Ya w))(hB:∀w,(y9 p w N).map (λs=>(s.1.heap.isNs mainGlobals&&s.1.gens.size==0,staticsOk (importedModules p.main.body) s.1.heap s.2.abs.heap&&namesBound p s.2.abs.heap&&gensDone s.2.abs&&laidKept s.1.heap s.2.abs.heap))=some (true,true))(hC:∀w,(fencedOpening treeTable p w N).map (λs=>(Ln s).abs)=fencedOpening treeTable p w N):LeftO p q [] Xt Yf Ya N:=by
 intro w;have hA:=hA w;have hB:=hB w;have hC:=hC w;unfold y9 at hA hB;unfold openEnds
 cases hO:fencedOpening treeTable p w N with
 | none=>rw[hO]at hA;cases hA
 | some s =>
  rw[hO]at hA hB hC;have hC:(Ln s).abs=s:=cU hC;simp only[Option.bind_some]at hA hB⊢
  cases hR:segRunT treeTable p w s.heap.objs.size (s.heap.nsMap mainGlobals (Str.ofString "__annotations__")) 0 N (Ln s) (topStub p)with
  | none=>rw[hR]at hA;cases hA
  | some r =>
   obtain⟨f,sT,c,q⟩:=r;rw[hR]at hA hB;have h1:=segRun_of hR;rw[hC]at h1;have h2:=Lm _ _ _ _ h1;simp only[tf,qB,CP]at hA hB;unfold topFrom;rw[hB.1];simp only[h2,Option.bind_some];rw[hB.2];simp only[tf,hA.1,hA.2]
theorem US:∀w,(y9 PySem.Challenge.pw_cutstand_k05_deeds_done w 8132).map (λs=>(PySem.W.openSeen vw [] (importedModules PySem.Challenge.pw_cutstand_k05_deeds_done.main.body) (λs=>PySem.W.xlAt vw [] s&&PySem.W.recOk [] s) true s.2.abs,PySem.W.Hook.obs hk s.2.abs))=some (PySem.W.openGood vw [],PySem.W.Hook.val hk w):=by
 intro w
 kernel_rfl
theorem UT:∀w,(y9 PySem.Challenge.pw_cutstand_k05_deeds_done w 8132).map (λs=>(s.1.heap.isNs mainGlobals&&s.1.gens.size==0,PySem.W.staticsOk (importedModules PySem.Challenge.pw_cutstand_k05_deeds_done.main.body) s.1.heap s.2.abs.heap&&PySem.W.namesBound PySem.Challenge.pw_cutstand_k05_deeds_done s.2.abs.heap&&PySem.W.gensDone s.2.abs&&PySem.W.laidKept s.1.heap s.2.abs.heap))=some (true,true):=by
 intro w
 kernel_rfl
theorem UU:∀w,(PySem.W.fencedOpening treeTable PySem.Challenge.pw_cutstand_k05_deeds_done w 8132).map (λs=>(Ln s).abs)=PySem.W.fencedOpening treeTable PySem.Challenge.pw_cutstand_k05_deeds_done w 8132:=by
 intro w
 kernel_rfl
theorem UW:PySem.W.LeftO PySem.Challenge.pw_cutstand_k05_deeds_done vw [] (λs=>PySem.W.xlAt vw [] s&&PySem.W.recOk [] s) (PySem.W.Hook.obs hk) (PySem.W.Hook.val hk) 8132:=GR US UT UU
end d5
end
section
namespace L2
open PySem PySem.Spec PyProof.Rows
abbrev bA:=Sum Int Str
noncomputable def gn:bA->Value->Bool
 | .inl k,v=>Value.isInt k v
 | .inr x,v=>Value.isStrOf x v
noncomputable def Qk(w:World):bA->Int
 | .inl k=>hashInt k
 | .inr x=>hashStr w x
theorem bT:∀{k:bA}{v:Value},gn k v=true->(∃i t,k=Sum.inl i/\v=Value.int i t)\/(∃x t,k=Sum.inr x/\v=Value.str x t)
 | .inl i,v,h=>by
  obtain⟨t,e⟩:=Value.isInt_shape (k:=i) (v:=v) h;exact .inl ⟨i,t,rfl,e⟩
 | .inr x,v,h=>by
  obtain⟨t,e⟩:=Value.isStrOf_shape (x:=x) (v:=v) h;exact .inr ⟨x,t,rfl,e⟩
theorem m8(i:Int)(t:Tok):gn (.inl i) (.int i t)=true:=by simp[gn,Value.isInt]
theorem m_(x:Str)(t:Tok):gn (.inr x) (.str x t)=true:=by simp[gn,Value.isStrOf]
theorem y_(a b:Int):decide ((Sum.inl a:bA)=Sum.inl b)=(a==b):=by
 by_cases e:a=b
 ·subst e;simp
 ·have h:¬(Sum.inl a:bA)=Sum.inl b:=λq=>e (Sum.inl.inj q);rw[eh h];exact(mL.mpr e).symm
theorem GS(a b:Str):decide ((Sum.inr a:bA)=Sum.inr b)=decide (a=b):=by
 by_cases e:a=b
 ·subst e;simp
 ·have h:¬(Sum.inr a:bA)=Sum.inr b:=λq=>e (Sum.inr.inj q);rw[eh h,eh e]
theorem GU(a:Int)(b:Str):decide ((Sum.inl a:bA)=Sum.inr b)=false:=eh (λq=>nomatch q)
theorem GV(a:Str)(b:Int):decide ((Sum.inr a:bA)=Sum.inl b)=false:=eh (λq=>nomatch q)
def bu(prog:Program)(w:World):PySem.KeyKind prog w bA where
 is:=gn
 hash:=Qk w
 inj:=λv a b ha hb=>by
  rcases bT ha with⟨i,t,rfl,rfl⟩|⟨x,t,rfl,rfl⟩
  ·rcases bT hb with⟨j,u,rfl,e⟩|⟨y,u,rfl,e⟩
   ·injection e with e1 _;rw[e1]
   ·exact nomatch e
  ·rcases bT hb with⟨j,u,rfl,e⟩|⟨y,u,rfl,e⟩
   ·exact nomatch e
   ·injection e with e1 _;rw[e1]
 byValue:=λk v h=>by
  rcases bT h with⟨i,t,rfl,rfl⟩|⟨x,t,rfl,rfl⟩<;>rfl
 pyHash:=λhv h=>by
  rcases bT hv with⟨i,t,rfl,rfl⟩|⟨x,t,rfl,rfl⟩
  ·exact wpAny_pyHash_int h
  ·exact wpAny_pyHash_str h
 eqBool:=λhu hv h=>by
  rcases bT hu with⟨i,t,rfl,rfl⟩|⟨x,t,rfl,rfl⟩
  ·rcases bT hv with⟨j,u,rfl,rfl⟩|⟨y,u,rfl,rfl⟩
   ·rw[y_]at h;exact wpAny_eqBool_int h
   ·rw[GU]at h;exact SeqAt.EqAt.int_str i t y u _ _ _ _ h
  ·rcases bT hv with⟨j,u,rfl,rfl⟩|⟨y,u,rfl,rfl⟩
   ·rw[GV]at h;exact SeqAt.EqAt.str_int x t j u _ _ _ _ h
   ·rw[GS]at h;exact wpAny_eqBool_str h
 «strs»:=λk x t v h=>by
  rcases bT h with⟨i,u,rfl,e⟩|⟨y,u,rfl,e⟩
  ·exact nomatch e
  ·injection e with e1 _;subst e1;cases v<;>rfl
theorem qI(prog:Program)(w:World)(i:Int)(t:Tok):(bu prog w).is (.inl i) (.int i t)=true:=m8 i t
theorem qJ(prog:Program)(w:World)(x:Str)(t:Tok):(bu prog w).is (.inr x) (.str x t)=true:=m_ x t
inductive V where
 | aJ | bl (b:Bool) | int (i:Int) | str (x:Str) | GW (b:Array UInt8) | Fw (b:UInt64) | ref (a:Addr) | ty (n:String)
 deriving DecidableEq
noncomputable def RelV:V->Value->Prop
 | .aJ,u=>u=Value.none
 | .bl b,u=>u=Value.bool b
 | .int i,u=>∃t,u=Value.int i t
 | .str x,u=>∃t,u=Value.str x t
 | .GW b,u=>∃t,u=Value.bytes b t
 | .Fw b,u=>∃t,u=Value.float b t
 | .ref a,u=>u=Value.ref a
 | .ty n,u=>u=Value.type n
abbrev aP:List V->List Value->Prop:=Paired RelV
theorem aP.length{xs:List V}{us:List Value}(r:aP xs us):xs.length=us.length:=yZ r
theorem aP.get:∀{xs:List V}{us:List Value}{i:Nat}{x:V},aP xs us->xs[i]?=some x->∃u,us[i]?=some u/\RelV x u
 | _,_,_,_,.nil,e=>by simp at e
 | _,_,0,_,.cons r _,e=>by simp at e;subst e;exact⟨_,rfl,r⟩
 | _,_,i+1,x,.cons _ t,e=>by
  obtain⟨u,h1,h2⟩:=aP.get (i:=i) (x:=x) t (by simpa using e);exact⟨u,by simpa using h1,h2⟩
theorem aP.set{x:V}{u:Value}(r:RelV x u):∀{xs:List V}{us:List Value}(i:Nat),aP xs us->aP (xs.set i x) (us.set i u)
 | _,_,_,.nil=>.nil
 | _,_,0,.cons _ t=>.cons r t
 | _,_,i+1,.cons q t=>.cons q (aP.set r i t)
theorem aP.append:∀{xs ys:List V}{us ws:List Value},aP xs us->aP ys ws->aP (xs++ys) (us++ws)
 | _,_,_,_,.nil,s=>s
 | _,_,_,_,.cons r t,s=>.cons r (aP.append t s)
theorem aP.take:∀{xs:List V}{us:List Value}(n:Nat),aP xs us->aP (xs.take n) (us.take n)
 | _,_,0,_=>.nil
 | _,_,_+1,.nil=>.nil
 | _,_,n+1,.cons r t=>.cons r (aP.take n t)
theorem aP.drop:∀{xs:List V}{us:List Value}(n:Nat),aP xs us->aP (xs.drop n) (us.drop n)
 | _,_,0,r=>r
 | _,_,_+1,.nil=>.nil
 | _,_,n+1,.cons _ t=>aP.drop n t
def gp:Option V->Option Value->Prop
 | some v,some u=>RelV v u
 | none,none=>True
 | _,_=>False
def KV{κ:Type}:List (κ×V)->List (κ×Value)->Prop:=Paired λ(p:κ×V) (q:κ×Value)=>p.1=q.1/\RelV p.2 q.2
def kV:bA->V
 | .inl i=>.int i
 | .inr x=>.str x
inductive HO where
 | lst (xs:List V)
 | tup (xs:List V)
 | dK (ao:List (bA×V)) | dT (ao:List (List bA×V))
 | set (S:Int->Bool) (n:Nat)
 | ins (C dx:Addr) (fs:List (Str×V))
 | own (x:Addr)
 | xd (fs:List (Str×V))
 | met (f x:Addr)
 | jU (lo hi:Int)
 | gh (o:Obj) (u:HO)
 | GX (ps:Array Value)
 | ext (φ:Heap->Prop)
abbrev Hp:=Addr->Option HO
noncomputable def br(H:Hp)(a:Addr)(o:HO):Hp:=λb=>if b=a then some o else H b
theorem aQ{H:Hp}{a:Addr}{o:HO}:br H a o a=some o:=by unfold br;rw[aS rfl]
theorem aj{H:Hp}{a b:Addr}{o:HO}(h:b≠a):br H a o b=H b:=by unfold br;rw[a8 h]
theorem Lo{H:Hp}{a b:Addr}{o u:HO}(h:H a=some o)(h':H b=some u)(d:o≠u):a≠b:=by
 intro e;subst e;rw[h]at h';exact d (cU h')
theorem cu{H:Hp}{a b:Addr}{o:HO}(h:H a=some o)(h':H b=none):a≠b:=by
 intro e;subst e;rw[h]at h';cases h'
section
variable (P:Program) (w:World)
def bD(H:Hp)(h:Heap)(a:Addr):HO->Prop
  | .lst xs=>xs.length<=sizeLine/\∃(aC:List Value) (n:Nat),aP xs aC/\h.get? a=some {cls:=.type "list",data:=.seq aC.toArray n}
  | .tup xs=>xs.length<=sizeLine/\∃aC:List Value,aP xs aC/\IsTup h a aC.toArray
  | .dK ao=>ao.length<=sizeLine/\(a==sysModules)=false/\∃vs,KV ao vs/\h.DictOf (bu P w) a vs
  | .dT ao => ao.length <= sizeLine /\ (a == sysModules) = false /\ ∃ xs : List (List bA × Addr × Value),
      Paired (λ(p:List bA×V) (q:List bA×Addr×Value)=>p.1=q.1/\H q.2.1=some (.tup (p.1.map kV))/\RelV p.2 q.2.2) ao xs /\
      ∃o es ep,h.get? a=some o/\o.ExactDict/\o.data=.dict es ep/\es.toList=xs.map (entryOfKey (tupleKind (bu P w)))/\(xs.map (·.1)).Nodup
  | .set S n=>h.SetOf (intKind P w) a S n
  | .ins C dx fs => H dx = some (.own a) /\ fs.length <= 1000 /\ dx ≠ a /\ h.get? a = some (PySem.W.instObj C dx) /\
      ∃mA,h.Ns1 dx mA/\(∀f,gp (fs.lookup f) (mA f))/\PySem.Within mA (fs.map (·.1))
  | .own _=>∃o,h.get? a=some o
  | .xd fs=>∃mA,h.Ns1 a mA/\∀f,gp (fs.lookup f) (mA f)
  | .jU lo hi=>∃t u v,h.get? a=some {cls:=.type "range",data:=.fields #[.int lo t,.int hi u,.int 1 v]}
  | .gh o u=>h.get? a=some o/\bD H h a u
  | .GX ps=>h.get? a=some {cls:=.none,data:=.fields ps}
  | .met f x=>h.get? a=some (PySem.W.methodObj (.ref f) (.ref x))
  | .ext φ=>φ h/\(∃o,h.get? a=some o)/\∀h1 h2:Heap,φ h1->(∀o,h1.get? a=some o->h2.get? a=some o)->φ h2
def gS(H:Hp)(h:Heap):Prop:=∀a o,H a=some o->bD P w H h a o
end
section
variable {P:Program} {w:World} {H H':Hp} {h h':Heap} {a:Addr} {o:HO}
theorem bD.lt(x:bD P w H h a o):a<h.objs.size:=by
 cases o with
 | lst xs=>obtain⟨_,_,_,_,e⟩:=x;exact bL e
 | tup xs=>obtain⟨_,_,_,p⟩:=x;exact p.lt
 | dK ao=>obtain⟨_,_,_,_,o,_,_,e,_⟩:=x;exact bL e
 | dT ao=>obtain⟨_,_,_,_,o,_,_,e,_⟩:=x;exact bL e
 | set S n=>obtain⟨o,_,_,_,e,_⟩:=x;exact bL e
 | ins C dx fs=>obtain⟨_,_,_,e,_⟩:=x;exact bL e
 | own y=>obtain⟨_,e⟩:=x;exact bL e
 | xd fs=>obtain⟨_,⟨_,_,_,e,_⟩,_⟩:=x;exact bL e
 | jU lo hi=>obtain⟨_,_,_,e⟩:=x;exact bL e
 | gh ob u=>obtain⟨e,_⟩:=x;exact bL e
 | GX ps=>exact bL (show h.get? a=some _ from x)
 | met f y=>exact bL (show h.get? a=some _ from x)
 | ext φ=>obtain⟨_,⟨_,e⟩,_⟩:=x;exact bL e
theorem Paired.GY{α β:Type}{F G:α->β->Prop}:∀{Lp:List α}{Lq:List β},Paired F Lp Lq->(∀a b,F a b->G a b)->Paired G Lp Lq
 | _,_,.nil,_=>.nil
 | _,_,.cons r t,f=>.cons (f _ _ r) (Paired.GY t f)
theorem bD.qK(x:bD P w H h a o)(k:∀b u,(b=a\/H b=some (.own a))->h.get? b=some u->h'.get? b=some u)(ho:∀b,H b=some (.own a)->H' b=some (.own a))(ht:∀b xs,H b=some (.tup xs)->H' b=some (.tup xs)):bD P w H' h' a o:=by
 induction o with
 | lst xs=>obtain⟨z,aC,n,r,e⟩:=x;exact⟨z,aC,n,r,k _ _ (.inl rfl) e⟩
 | tup xs=>obtain⟨z,aC,r,ob,e,c⟩:=x;exact⟨z,aC,r,ob,k _ _ (.inl rfl) e,c⟩
 | dK ao=>obtain⟨z,y,vs,r,ob,es,ep,e,c⟩:=x;exact⟨z,y,vs,r,ob,es,ep,k _ _ (.inl rfl) e,c⟩
 | dT ao =>
  obtain⟨z,y,xs,r,ob,es,ep,e,c⟩:=x;exact⟨z,y,xs,Paired.GY r λp q z=>⟨z.1,ht _ _ z.2.1,z.2.2⟩,ob,es,ep,k _ _ (.inl rfl) e,c⟩
 | set S n=>obtain⟨ob,es,ep,t,e,c⟩:=x;exact⟨ob,es,ep,t,k _ _ (.inl rfl) e,c⟩
 | ins C dx fs =>
  obtain⟨d,z,ne,e,mA,⟨od,es,ep,e2,c⟩,r⟩:=x;exact⟨ho _ d,z,ne,k _ _ (.inl rfl) e,mA,⟨od,es,ep,k _ _ (.inr d) e2,c⟩,r⟩
 | own y=>obtain⟨ob,e⟩:=x;exact⟨ob,k _ _ (.inl rfl) e⟩
 | xd fs=>obtain⟨mA,⟨od,es,ep,e,c⟩,r⟩:=x;exact⟨mA,⟨od,es,ep,k _ _ (.inl rfl) e,c⟩,r⟩
 | jU lo hi=>obtain⟨t,u,v,e⟩:=x;exact⟨t,u,v,k _ _ (.inl rfl) e⟩
 | gh ob u ih=>obtain⟨e,q⟩:=x;exact⟨k _ _ (.inl rfl) e,ih q⟩
 | GX ps =>
  have e:h.get? a=some {cls:=.none,data:=.fields ps}:=x;show h'.get? a=some {cls:=.none,data:=.fields ps};exact k a _ (.inl rfl) e
 | met f y =>
  have e:h.get? a=some (PySem.W.methodObj (.ref f) (.ref y)):=x;show h'.get? a=some (PySem.W.methodObj (.ref f) (.ref y));exact k a _ (.inl rfl) e
 | ext φ=>obtain⟨p,⟨o,e⟩,st⟩:=x;exact⟨st _ _ p λo q=>k _ _ (.inl rfl) q,⟨o,k _ _ (.inl rfl) e⟩,st⟩
theorem gS.lt(x:gS P w H h)(e:H a=some o):a<h.objs.size:=(x a o e).lt
theorem gS.fresh(x:gS P w H h)(e:h.objs.size<=a):H a=none:=by
 cases q:H a with
 | none=>rfl
 | some u=>exact absurd (eZ (x.lt q) e) (iJ _)
theorem gS.kept(x:gS P w H h)(k:∀b u,h.get? b=some u->h'.get? b=some u):gS P w H h':=λa o e =>
 (x a o e).qK (λb u _ q=>k b u q) (λ_ q=>q) λ_ _ q=>q
theorem gS.laid(x:gS P w H h)(k:∀b u,h.get? b=some u->h'.get? b=some u)(hp:h.objs.size<=a)(new:bD P w (br H a o) h' a o):gS P w (br H a o) h':=λb u e=>by
 have hn:=x.fresh hp;by_cases hb:b=a
 ·subst hb;rw[aQ]at e;cases e;exact new
 ·rw[aj hb]at e;exact(x b u e).qK (λc v _ q=>k c v q) (λc q=>by rw[aj (cu q hn)];exact q) λc xs q=>by rw[aj (cu q hn)];exact q
end
noncomputable def Rd(H:Hp)(a:Addr)(u:HO):Prop:=H a=some u\/∃o,H a=some (.gh o u)
theorem Rd.ok{P:Program}{w:World}{H:Hp}{h:Heap}{a:Addr}{u:HO}(r:Rd H a u)(x:gS P w H h):bD P w H h a u:=by
 rcases r with r | ⟨o,r⟩
 ·exact x a u r
 ·obtain⟨_,q⟩:=x a _ r;exact q
noncomputable def Lr:Option HO->Prop
 | some (.lst _)=>True
 | some (.dK _)=>True
 | some (.dT _)=>True
 | some (.set _ _)=>True
 | some (.ins _ _ _)=>True
 | some (.ext _)=>True
 | _=>False
section
variable {P:Program} {w:World} {H:Hp} {h h':Heap} {x e:Addr} {o':HO}
theorem gS.write(ok:gS P w H h)(mu:Lr (H x))(he:e=x\/H e=some (.own x))(k:∀b u,b≠e->h.get? b=some u->h'.get? b=some u)(Kr:∃u,h'.get? e=some u)(new:bD P w (br H x o') h' x o'):gS P w (br H x o') h':=λb u q=>by
 have Ls:∀c y,H c=some (.own y)->c≠x:=λc y r z=>by subst z;rw[r]at mu;exact mu
 have Ql:∀c xs,H c=some (.tup xs)->c≠x:=λc xs r z=>by subst z;rw[r]at mu;exact mu
 by_cases hb:b=x
 ·subst hb;rw[aQ]at q;cases q;exact new
 ·rw[aj hb]at q;by_cases GZ:b=e
  ·have q':H b=some (.own x):=by
    rcases he with z | z
    ·exact absurd (GZ.trans z) hb
    ·rw[GZ];exact z
   rw[q]at q';cases q';obtain⟨v,hv⟩:=Kr;exact⟨v,by rw[GZ];exact hv⟩
  ·refine(ok b u q).qK (λc v hc r=>k c v ?_ r) (λc r=>by rw[aj (Ls c b r)];exact r) λc xs r=>by rw[aj (Ql c xs r)];exact r
   rcases hc with rfl | hc
   ·exact GZ
   ·rintro rfl;rcases he with z | z
    ·exact Ls c b hc z
    ·rw[hc]at z;cases z;exact hb rfl
end
structure Un (fs ex:List Addr) (H H':Hp) (h h':Heap):Prop where
 keep:∀b o,h.get? b=some o->H b=none->b∉fs->b∉ex->h'.get? b=some o
 slot:∀b o,h.get? b=some o->H b=none->b∈fs->b∉ex->∃sl,h'.get? b=some {o with slots:=sl}
 free:∀b o,h.get? b=some o->H b=none->b∉ex->H' b=none
 there:∀b o,h.get? b=some o->b∉ex->∃o',h'.get? b=some o'
 eP:∀b xs,H b=some (.tup xs)->H' b=some (.tup xs)
 jw:∀b o u,H b=some (.gh o u)->H' b=some (.gh o u)
 kh:∀b ps,H b=some (.GX ps)->∃more,H' b=some (.GX (ps++more))
section
variable {fs UX ex YX:List Addr} {H H1 H2:Hp} {h h1 h2 h':Heap} {a x e:Addr} {o:HO}
theorem Un.any(u:Un fs ex H H1 h h1){b:Addr}{ob:Obj}(q:h.get? b=some ob)(n:H b=none)(hx:b∉ex):∃sl,h1.get? b=some {ob with slots:=sl}:=by
 by_cases hb:b∈fs
 ·exact u.slot b ob q n hb hx
 ·exact⟨ob.slots,u.keep b ob q n hb hx⟩
theorem Un.trans(a:Un fs ex H H1 h h1)(b:Un fs ex H1 H2 h1 h2):Un fs ex H H2 h h2 where
 keep:=λc ob q n hc hx=>b.keep c ob (a.keep c ob q n hc hx) (a.free c ob q n hx) hc hx
 slot:=λc ob q n hc hx=>by
  obtain⟨sl,e1⟩:=a.slot c ob q n hc hx;obtain⟨Lu,e2⟩:=b.slot c _ e1 (a.free c ob q n hx) hc hx;exact⟨Lu,e2⟩
 free:=λc ob q n hx=>by
  obtain⟨o',e1⟩:=a.there c ob q hx;exact b.free c o' e1 (a.free c ob q n hx) hx
 there:=λc ob q hx=>by
  obtain⟨o',e1⟩:=a.there c ob q hx;exact b.there c o' e1 hx
 eP:=λc xs q=>b.eP c xs (a.eP c xs q)
 jw:=λc ob xs q=>b.jw c ob xs (a.jw c ob xs q)
 kh:=λc ps q=>by
  obtain⟨m1,e1⟩:=a.kh c ps q;obtain⟨m2,e2⟩:=b.kh c _ e1;exact⟨m1++m2,by rw[e2,Array.append_assoc]⟩
theorem Un.kept(k:∀b u,h.get? b=some u->h'.get? b=some u):Un fs ex H H h h' :=
 ⟨λb ob q _ _ _=>k b ob q,λb ob q _ _ _=>⟨ob.slots,k b ob q⟩,λ_ _ _ n _=>n,λb ob q _=>⟨ob,k b ob q⟩,λ_ _ q=>q,λ_ _ _ q=>q,λ_ ps q=>⟨#[],by rw[q];simp⟩⟩
theorem Un.refl:Un fs ex H H h h:=Un.kept λ_ _ q=>q
theorem Un.laid(k:∀b u,h.get? b=some u->h'.get? b=some u)(hp:h.objs.size<=a)(hn:H a=none):Un fs ex H (br H a o) h h' where
 keep:=λb u q _ _ _=>k b u q
 slot:=λb u q _ _ _=>⟨u.slots,k b u q⟩
 free:=λb u q n _=>by rw[aj (ej (eZ (bL q) hp))];exact n
 there:=λb u q _=>⟨u,k b u q⟩
 eP:=λb xs q=>by rw[aj (cu q hn)];exact q
 jw:=λb u xs q=>by rw[aj (cu q hn)];exact q
 kh:=λb ps q=>⟨#[],by rw[aj (cu q hn),q];simp⟩
theorem Un.write(mu:Lr (H x))(he:e=x\/H e=some (.own x))(k:∀b u,b≠e->h.get? b=some u->h'.get? b=some u)(Kr:∃u,h'.get? e=some u):Un fs ex H (br H x o) h h':=by
 have hx:∀b,H b=none->b≠x:=λb n z=>by subst z;rw[n]at mu;exact mu
 have hb:∀b,H b=none->b≠e:=λb n z=>by
  subst z;rcases he with r | r
  ·exact hx b n r
  ·rw[n]at r;cases r
 have hm:∀b u,H b=some u->¬Lr (some u)->b≠x:=λb u q nm z=>by subst z;rw[q]at mu;exact nm mu
 refine⟨λb u q n _ _=>k b u (hb b n) q,λb u q n _ _=>⟨u.slots,k b u (hb b n) q⟩,λb u q n _=>by rw[aj (hx b n)];exact n,λb u q _=>?_,
  λb xs q=>by rw[aj (hm b _ q λz=>z)];exact q,λb u xs q=>by rw[aj (hm b _ q λz=>z)];exact q,λb ps q=>⟨#[],by rw[aj (hm b _ q λz=>z),q];simp⟩⟩
 by_cases GZ:b=e
 ·subst GZ;exact Kr
 ·exact⟨u,k b u GZ q⟩
end
noncomputable def OW(h:Heap)(H:Hp):List Addr:=(List.range h.objs.size).filter λa=>(H a).isSome
def oz(h:Heap)(H:Hp):Heap:=PySem.W.hideAll h (OW h H)
theorem xg(h:Heap)(H:Hp):(oz h H).objs.size=h.objs.size:=PySem.W.hideAll_size _ _
theorem zc{h:Heap}{H:Hp}{b:Addr}{o:Obj}(e:h.get? b=some o)(n:H b=none):(oz h H).get? b=some o :=
 PySem.W.hideAll_get _ e λhm=>by
  have q:(H b).isSome=true:=(CN.mp hm).2;rw[n]at q;simp at q
theorem CQ{h:Heap}{H:Hp}{b:Addr}{o:Obj}(e:(oz h H).get? b=some o):h.get? b=some o/\H b=none:=by
 have e':h.get? b=some o:=PySem.W.of_hideAll (OW h H) e;refine⟨e',?_⟩
 cases q:H b with
 | none=>rfl
 | some x =>
  have hm:b∈OW h H:=CN.mpr ⟨List.mem_range.mpr (bL e'),by simp[q]⟩;have z:(oz h H).get? b=none:=PySem.W.hideAll_none (OW h H) hm;rw[z]at e;cases e
noncomputable def CS(g h:Heap)(L:Addr):List (Addr×Obj):=(List.range h.objs.size).filterMap λa=>if a=L\/(g.get? a).isSome=true then none else (h.get? a).map λo=>(a,o)
def ez(g h:Heap)(L d:Addr):List (Addr×Obj):=(CS g h L).filter λp=>decide (p.1≠d)
structure Mod (K:Frag) (mg:Str->Option Value) (base:Heap):Prop where
 Ks:K.In base
 glob:base.Ns mainGlobals mg
 blt:∃mb,base.Ns builtinsNs mb/\∀x:Str,x≠ "__name__" -> mb x=bootBuiltins x
 nolimit:base.NoLimit
structure Cx where
 prog:Program
 w:World
 K:Frag
 mg:Str->Option Value
 base:Heap
 A:Around
 N:List Str
 df:Shared
 kZ:Hp
 env:Env
 outer:List Env
 stack:List Env
 ex:List Addr
 fn:Str->Bool
 calm:Bool
 pn:List (Addr×Obj)
 xe:Value->Shared->Prop
def xh(l:List Env):List Addr:=l.filterMap (·.frame)
abbrev Cx.fs(X:Cx):List Addr:=xh X.outer
noncomputable def Lv(sc:Scope)(x:Str):Prop:=sc.names.lookup x=some .local\/sc.names.lookup x=some .cell\/sc.names.lookup x=some .free
noncomputable def Loc(sc:Scope)(x:Str):Prop:=sc.names.lookup x=some .local\/sc.names.lookup x=some .cell
noncomputable def Look(env:Env)(h:Heap)(m:Str->Option Value)(x:Str)(u:Value):Prop :=
 (env.kindOf x=some .local/\m x=some u)\/((env.kindOf x=some .cell\/env.kindOf x=some .free)/\∃c,env.cells.lookup x=some c/\h.IsCell c (some u))
structure Cx.Ok (X:Cx):Prop where
 mod:Mod X.K X.mg X.base
 kind:X.env.scope.kind=.function
 glob:X.env.globals=mainGlobals
 blt:X.env.builtins=builtinsNs
 above:X.df.heap.objs.size<=X.env.locals
 inj:∀x y c,X.env.cells.lookup x=some c->X.env.cells.lookup y=some c->x=y
 has:∀x,(X.env.kindOf x=some .cell\/X.env.kindOf x=some .free)->∃c,X.env.cells.lookup x=some c
 Fx:∀x c,X.fn x=true->X.env.cells.lookup x=some c->X.df.heap.objs.size<=c
 hd:X.calm=true->X.A.handled=none
 frames:X.A.frames=some X.stack
 vd:X.stack=X.outer\/(X.stack=X.env::X.outer/\X.env.frame=some X.env.locals)
 OX:∀b∈X.ex,b≠X.env.locals/\∀x c,X.env.cells.lookup x=some c->c≠b
 bs:∀b o,X.base.get? b=some o->X.df.heap.get? b=some o/\X.kZ b=none
 Cg:X.base.objs.size<=X.df.heap.objs.size
 xj:∀b o,X.base.get? b=some o->b∉X.ex
 xk:∀b∈X.ex,b∉X.fs
 jx:X.df.heap.FunFrames X.base X.outer
 Fy:∀b∈X.fs,X.kZ b=none
structure Inv (X:Cx) (ae:List (Addr×Obj)) (σ:List (Option V)) (H:Hp) (s:Shared):Prop where
 ok:X.Ok
 os:s.os=X.df.os
 bare:AllBare s.gens
 base:Un X.fs X.ex X.kZ H X.df.heap s.heap
 loc:∃m,s.heap.Ns X.env.locals m/\∀(i:Nat)(x:Str)(v:V),X.N[i]?=some x->σ[i]?=some (some v)->Lv X.env.scope x->∃u,RelV v u/\Look X.env s.heap m x u
 cell:∀x c,X.env.cells.lookup x=some c->∃v,s.heap.IsCell c v
 free:H X.env.locals=none
 fi:∀x c,X.env.cells.lookup x=some c->H c=none
 pin:∀p∈X.pn++ae,s.heap.get? p.1=some p.2/\H p.1=none/\p.1≠X.env.locals/\p.1∉X.fs/\∀v,p.2.data≠.cell v
 bt:gS X.prog X.w H s.heap
 len:σ.length=X.N.length
section
variable {X:Cx} {ae:List (Addr×Obj)} {σ:List (Option V)} {H H':Hp} {s:Shared} {h':Heap}
theorem Cx.Ok.Qm(ok:X.Ok){b:Addr}{o:Obj}(e:X.base.get? b=some o):b∉X.fs:=λhb=>by
 have:=(ok.jx.mem hb).1;rw[e]at this;cases this
theorem Inv.bs(I:Inv X ae σ H s):∀b o,X.base.get? b=some o->s.heap.get? b=some o/\H b=none:=λb o e =>
 ⟨I.base.keep b o (I.ok.bs b o e).1 (I.ok.bs b o e).2 (I.ok.Qm e) (I.ok.xj b o e),I.base.free b o (I.ok.bs b o e).1 (I.ok.bs b o e).2 (I.ok.xj b o e)⟩
theorem Inv.bk(I:Inv X ae σ H s):∀b o,X.base.get? b=some o->s.heap.get? b=some o:=λb o e=>(I.bs b o e).1
theorem Inv.mod(I:Inv X ae σ H s):Mod X.K X.mg X.base:=I.ok.mod
theorem Inv.jn(I:Inv X ae σ H s):X.K.In s.heap:=I.ok.mod.Ks.keeps I.bk
theorem Inv.lt(I:Inv X ae σ H s):X.env.locals<s.heap.objs.size:=let ⟨_,hn,_⟩:=I.loc;hn.lt
theorem Inv.sz(I:Inv X ae σ H s):X.df.heap.objs.size<=s.heap.objs.size:=cJ I.ok.above (mO I.lt)
theorem Inv.Lw(I:Inv X ae σ H s){a:Addr}(h:s.heap.objs.size<=a):a∉X.fs:=λhb=>by
 obtain⟨_,o,ho,_⟩:=I.ok.jx.mem hb;exact absurd (eZ (bL ho) (cJ I.sz h)) (iJ _)
theorem Inv.CT(I:Inv X ae σ H s):∀x c,X.env.cells.lookup x=some c->c≠X.env.locals:=λx c e z=>by
 obtain⟨v,o,ho,hd⟩:=I.cell x c e;obtain⟨m,⟨o',es,ep,vf,G0,_⟩,_⟩:=I.loc;rw[z,vf]at ho;cases ho;rw[G0]at hd;cases hd
theorem Inv.jx(I:Inv X ae σ H s):s.heap.FunFrames X.base X.outer:=by
 have all:∀(l:List Env),(∀b∈xh l,b∈X.fs)->X.df.heap.FunFrames X.base l->s.heap.FunFrames X.base l:=by
  intro l
  induction l with
  | nil=>intro _ _;trivial
  | cons env r ih =>
   intro hs hl;obtain⟨hk,⟨L,o,hf,hn,ho,hd⟩,hr⟩:=hl;have hL:L∈X.fs:=hs L (by unfold xh;rw[j_,hf];exact eg);obtain⟨sl,e⟩:=I.base.slot L o ho (I.ok.Fy L hL) hL λz=>I.ok.xk L z hL;exact⟨hk,⟨L,_,hf,hn,e,hd⟩,ih (λb hb=>hs b (by unfold xh;rw[j_,hf];exact dC _ hb)) hr⟩
 exact all X.outer (λ_ hb=>hb) I.ok.jx
theorem Inv.stack(I:Inv X ae σ H s):s.heap.FunFrames X.base X.stack:=by
 rcases I.ok.vd with e | ⟨e,hf⟩
 ·rw[e];exact I.jx
 ·rw[e];obtain⟨m,hn,_⟩:=I.loc;refine .cons (by rw[I.ok.kind];decide) hf hn ?_ I.jx;exact GF (cJ I.ok.Cg I.ok.above)
theorem Inv.oA(I:Inv X ae σ H s):∀b∈xh X.stack,b∈X.env.locals::X.fs:=λb hb=>by
 rcases I.ok.vd with e | ⟨e,hf⟩
 ·rw[e]at hb;exact dC _ hb
 ·rw[e]at hb;unfold xh at hb;rw[j_,hf]at hb;exact hb
theorem Inv.oB(I:Inv X ae σ H s):∀b∈xh X.stack,H b=none:=λb hb=>by
 rcases bS.mp (I.oA b hb)with e | hb
 ·rw[e];exact I.free
 ·obtain⟨_,o,ho,_⟩:=I.ok.jx.mem hb;exact I.base.free b o ho (I.ok.Fy b hb) λz=>I.ok.xk b z hb
theorem Inv.step{g':Array GenState}{t':Nat}{d':Drawn}{ch:List Addr}(I:Inv X ae σ H s)(yy:∀b∈ch,(b∈X.ex\/X.df.heap.objs.size<=b)/\b≠X.env.locals/\(∀x c,X.env.cells.lookup x=some c->c≠b)/\∀p∈X.pn++ae,p.1≠b)(keep:∀b o,b≠X.env.locals->b∉X.fs->b∉ch->s.heap.get? b=some o->H b=none->h'.get? b=some o)(slot:∀b o,b≠X.env.locals->b∈X.fs->b∉ch->s.heap.get? b=some o->H b=none->∃sl,h'.get? b=some {o with slots:=sl})(free:∀b o,b∉ch->s.heap.get? b=some o->H b=none->H' b=none)(there:∀b o,b∉ch->s.heap.get? b=some o->∃o',h'.get? b=some o')(eP:∀b xs,H b=some (.tup xs)->H' b=some (.tup xs))(jw:∀b o u,H b=some (.gh o u)->H' b=some (.gh o u))(kh:∀b ps,H b=some (.GX ps)->∃more,H' b=some (.GX (ps++more)))(ns:∀m,s.heap.Ns X.env.locals m->h'.Ns X.env.locals m)(bt:gS X.prog X.w H' h')(hg:AllBare g'):Inv X ae σ H' {s with heap:=h',gens:=g',drawn:=d',toks:=t'}:=by
 have Kt:∀b o,X.df.heap.get? b=some o->b≠X.env.locals:=λb o e=>ej (eZ (bL e) I.ok.above)
 have OY:∀b o,X.df.heap.get? b=some o->b∉X.ex->b∉ch:=λb o e hx hb=>by
  rcases(yy b hb).1 with z | z
  ·exact hx z
  ·exact absurd (eZ (bL e) z) (iJ _)
 have cellK:∀x c,X.env.cells.lookup x=some c->∀v,s.heap.IsCell c v->h'.IsCell c v:=λx c e v ⟨o,ho,hd⟩=>by
  have Lx:c∉ch:=λz=>(yy c z).2.2.1 x c e rfl;by_cases hc:c∈X.fs
  ·obtain⟨sl,q⟩:=slot c o (I.CT x c e) hc Lx ho (I.fi x c e);exact⟨_,q,hd⟩
  ·exact⟨o,keep c o (I.CT x c e) hc Lx ho (I.fi x c e),hd⟩
 refine⟨I.ok,I.os,hg,⟨λb o e n hb hx=>?_,λb o e n hb hx=>?_,λb o e n hx=>?_,λb o e hx=>?_,λb xs e=>eP b xs (I.base.eP b xs e),λb o xs e=>jw b o xs (I.base.jw b o xs e),λb ps e=>?_⟩,?_,λx c e=>?_,?_,λx c e=>?_,λp hp=>?_,bt,I.len⟩
 ·exact keep b o (Kt b o e) hb (OY b o e hx) (I.base.keep b o e n hb hx) (I.base.free b o e n hx)
 ·obtain⟨sl,e1⟩:=I.base.slot b o e n hb hx;obtain⟨Lu,e2⟩:=slot b _ (Kt b o e) hb (OY b o e hx) e1 (I.base.free b o e n hx);exact⟨Lu,e2⟩
 ·obtain⟨o',e1⟩:=I.base.there b o e hx;exact free b o' (OY b o e hx) e1 (I.base.free b o e n hx)
 ·obtain⟨o',e1⟩:=I.base.there b o e hx;exact there b o' (OY b o e hx) e1
 ·obtain⟨m1,e1⟩:=I.base.kh b ps e;obtain⟨m2,e2⟩:=kh b _ e1;exact⟨m1++m2,by rw[e2,Array.append_assoc]⟩
 ·obtain⟨m,hn,hl⟩:=I.loc;refine⟨m,ns m hn,λi x v e1 e2 e3=>?_⟩;obtain⟨u,r,l⟩:=hl i x v e1 e2 e3;refine⟨u,r,?_⟩;rcases l with l | ⟨k,c,e,z⟩
  ·exact .inl l
  ·exact .inr ⟨k,c,e,cellK x c e _ z⟩
 ·obtain⟨v,z⟩:=I.cell x c e;exact⟨v,cellK x c e v z⟩
 ·obtain⟨m,⟨o,_,_,ho,_⟩,_⟩:=I.loc;exact free _ o (λz=>(yy _ z).2.1 rfl) ho I.free
 ·obtain⟨v,o,ho,hd⟩:=I.cell x c e;exact free c o (λz=>(yy c z).2.2.1 x c e rfl) ho (I.fi x c e)
 ·obtain⟨e,n,ne,nf,d⟩:=I.pin p hp;have Lx:p.1∉ch:=λz=>(yy p.1 z).2.2.2 p hp rfl;exact⟨keep p.1 p.2 ne nf Lx e n,free p.1 p.2 Lx e n,ne,nf,d⟩
theorem Inv.un{t':Nat}(I:Inv X ae σ H s)(u:Un X.fs [] H H' s.heap h')(bt:gS X.prog X.w H' h'):Inv X ae σ H' {s with heap:=h',toks:=t'}:=by
 obtain⟨m,⟨o,es,ep,ho,r⟩,_⟩:=id I.loc;obtain⟨sl,hL⟩:=u.any ho I.free (by simp)
 exact I.step (g':=s.gens) (d':=s.drawn) (ch:=[]) (λ_ z=>nomatch z) (λb o _ hb _ e n=>u.keep b o e n hb (by simp)) (λb o _ hb _ e n=>u.slot b o e n hb (by simp)) (λb o _ e n=>u.free b o e n (by simp)) (λb o _ e=>u.there b o e (by simp)) u.eP u.jw u.kh (λm' hm=>by
  obtain⟨o',fZ,Qn,vf,r'⟩:=hm;rw[ho]at vf;cases vf;exact⟨_,fZ,Qn,hL,r'⟩) bt I.bare
theorem Inv.call{g':Array GenState}{t':Nat}{d':Drawn}{ch:List Addr}(I:Inv X ae σ H s)(u:Un (xh X.stack) ch H H' s.heap h')(bt:gS X.prog X.w H' h')(hg:AllBare g')(yy:∀b∈ch,(b∈X.ex\/X.df.heap.objs.size<=b)/\b≠X.env.locals/\(∀x c,X.env.cells.lookup x=some c->c≠b)/\∀p∈X.pn++ae,p.1≠b):Inv X ae σ H' {s with heap:=h',gens:=g',drawn:=d',toks:=t'}:=by
 obtain⟨m,⟨o,es,ep,ho,r⟩,_⟩:=id I.loc;obtain⟨sl,hL⟩:=u.any ho I.free λz=>(yy _ z).2.1 rfl
 exact I.step (ch:=ch) yy (λb o hL hb hc e n=>u.keep b o e n (λz=>(bS.mp (I.oA b z)).elim hL hb) hc) (λb o _ _ hc e n=>u.any e n hc) (λb o hc e n=>u.free b o e n hc) (λb o hc e=>u.there b o e hc) u.eP u.jw u.kh (λm' hm=>by
  obtain⟨o',fZ,Qn,vf,r'⟩:=hm;rw[ho]at vf;cases vf;exact⟨_,fZ,Qn,hL,r'⟩) bt hg
theorem Inv.turned{t':Nat}{it:Addr}(I:Inv X ae σ H s)(k:∀b o,b≠it->s.heap.get? b=some o->h'.get? b=some o)(hn:H it=none)(hL:it≠X.env.locals)(h1:it∈X.ex\/X.df.heap.objs.size<=it)(h2:∀x c,X.env.cells.lookup x=some c->c≠it)(h3:∀p∈X.pn++ae,p.1≠it):Inv X ae σ H {s with heap:=h',toks:=t'}:=by
 have S8:∀b u,H b=some u->b≠it:=λb u e z=>by rw[z,hn]at e;cases e
 refine I.step (g':=s.gens) (d':=s.drawn) (ch:=[it]) (λb hb=>?_) (λb o _ _ hc e _=>k b o (λz=>hc (by simp[z])) e) (λb o _ _ hc e _=>⟨o.slots,k b o (λz=>hc (by simp[z])) e⟩) (λ_ _ _ _ n=>n)
  (λb o hc e=>⟨o,k b o (λz=>hc (by simp[z])) e⟩) (λ_ _ e=>e) (λ_ _ _ e=>e) (λb ps e=>⟨#[],by rw[e];simp⟩) (λm hm=>?_) (λb u e=>?_) I.bare
 ·have e:b=it:=by simpa using hb
  subst e;exact⟨h1,hL,h2,h3⟩
 ·obtain⟨o,es,ep,ho,r⟩:=hm;exact⟨o,es,ep,k _ o (cK hL) ho,r⟩
 ·refine(I.bt b u e).qK (λc v hc q=>k c v ?_ q) (λ_ q=>q) λ_ _ q=>q;rcases hc with z | z
  ·rw[z];exact S8 b u e
  ·exact S8 c _ z
theorem Inv.tok(I:Inv X ae σ H s)(t:Nat):Inv X ae σ H {s with toks:=t}:=I.un (h':=s.heap) (t':=t) Un.refl I.bt
theorem Inv.kept{t':Nat}(I:Inv X ae σ H s)(k:∀b u,s.heap.get? b=some u->h'.get? b=some u):Inv X ae σ H {s with heap:=h',toks:=t'}:=I.un (Un.kept k) (I.bt.kept k)
theorem Inv.laid{a:Addr}{o:HO}{t':Nat}(I:Inv X ae σ H s)(k:∀b u,s.heap.get? b=some u->h'.get? b=some u)(hp:s.heap.objs.size<=a)(new:bD X.prog X.w (br H a o) h' a o):Inv X ae σ (br H a o) {s with heap:=h',toks:=t'}:=I.un (Un.laid k hp (I.bt.fresh hp)) (I.bt.laid k hp new)
theorem Inv.write{x e:Addr}{o:HO}{t':Nat}(I:Inv X ae σ H s)(mu:Lr (H x))(he:e=x\/H e=some (.own x))(k:∀b u,b≠e->s.heap.get? b=some u->h'.get? b=some u)(Kr:∃u,h'.get? e=some u)(new:bD X.prog X.w (br H x o) h' x o):Inv X ae σ (br H x o) {s with heap:=h',toks:=t'}:=I.un (Un.write mu he k Kr) (I.bt.write mu he k Kr new)
theorem Inv.oC{Fz:List (Addr×Obj)}(I:Inv X ae σ H s)(h:∀p∈Fz,s.heap.get? p.1=some p.2/\H p.1=none/\p.1≠X.env.locals/\p.1∉X.fs/\∀v,p.2.data≠.cell v):Inv X Fz σ H s :=
 ⟨I.ok,I.os,I.bare,I.base,I.loc,I.cell,I.free,I.fi,λp hp=>(fX.mp hp).elim (λz=>I.pin p (Cv _ z)) (h p),I.bt,I.len⟩
theorem k7{N:List Str}(hN:N.Nodup){i j:Nat}{x:Str}(a:N[i]?=some x)(b:N[j]?=some x):i=j:=by
 obtain⟨h1,e1⟩:=bV.mp a;obtain⟨h2,e2⟩:=bV.mp b;exact(List.getElem_inj hN).mp (e1.trans e2.symm)
theorem xl{M:Model}{A:Around}{E:Value->Shared->Prop}{i:Nat}{x:Str}{v:V}{u:Value}{Q:Unit->Shared->Prop}(I:Inv X ae σ H s)(hN:X.N.Nodup)(hi:X.N[i]?=some x)(hx:Loc X.env.scope x)(r:RelV v u)(h:∀s',Inv X ae (σ.set i (some v)) H s'->(∃a,Heap.SameBut a s.heap s'.heap/\(a=X.env.locals\/X.env.cells.lookup x=some a))->Q () s')(hf:X.fn x=true\/X.env.scope.names.lookup x=some .local:=by first | exact .inl rfl | exact .inr rfl | assumption):wpAny M A (storeName X.env x u) Q E s:=by
 obtain⟨m,hn,hl⟩:=id I.loc;have G1:(X.env.scope.kind == .class||(X.env.scope.kind == .module&&X.env.locals != X.env.globals))=false:=by rw[I.ok.kind];rfl
 have Ly:i<σ.length:=by rw[I.len];exact(bV.mp hi).1
 have CT:=I.CT
 have tracked:∀{a:Addr}{h':Heap},(∃o,s.heap.get? a=some o/\H a=none)->Heap.SameBut a s.heap h'->gS X.prog X.w H h':=λ{a h'} ha hs b ob e=>by
  obtain⟨_,_,qL⟩:=ha;refine(I.bt b ob e).qK (λc w' hc q=>(hs.2 c ?_).trans q) (λ_ q=>q) λ_ _ q=>q;rintro rfl;rcases hc with rfl | hc
  ·rw[qL]at e;cases e
  ·rw[qL]at hc;cases hc
 rcases hx with hk | hk
 ·refine wpAny_storeName_local hk hn (λh' Qo hs=>?_) G1;obtain⟨oL,_,_,UY,_⟩:=id hn;refine h _ ⟨I.ok,I.os,I.bare,⟨λb o e n hb hx=>?_,λb o e n hb hx=>?_,I.base.free,λb o e hx=>?_,I.base.eP,I.base.jw,I.base.kh⟩,⟨_,Qo,λj y v' e1 e2 e3=>?_⟩,λy c e=>?_,I.free,I.fi,λp hp=>?_,tracked ⟨oL,UY,I.free⟩ hs,by simpa using I.len⟩ ⟨_,hs,.inl rfl⟩
  ·exact(hs.2 b (ej (eZ (bL e) I.ok.above))).trans (I.base.keep b o e n hb hx)
  ·obtain⟨sl,e1⟩:=I.base.slot b o e n hb hx;exact⟨sl,(hs.2 b (ej (eZ (bL e) I.ok.above))).trans e1⟩
  ·obtain⟨o',e1⟩:=I.base.there b o e hx;exact⟨o',(hs.2 b (ej (eZ (bL e) I.ok.above))).trans e1⟩
  ·by_cases hj:j=i
   ·subst hj;rw[hi]at e1;cases e1;rw[kS Ly]at e2;cases e2;exact⟨u,r,.inl ⟨hk,by simp⟩⟩
   ·rw[jr (cK hj)]at e2;obtain⟨u',r',q⟩:=hl j y v' e1 e2 e3;refine⟨u',r',?_⟩;rcases q with⟨k,e⟩|⟨k,c,e,z⟩
    ·refine .inl ⟨k,?_⟩;have:y≠x:=λe=>hj (k7 hN e1 (e▸hi));simp[this,e]
    ·exact .inr ⟨k,c,e,z.sameBut hs (CT y c e)⟩
  ·obtain⟨w',z⟩:=I.cell y c e;exact⟨w',z.sameBut hs (CT y c e)⟩
  ·obtain⟨e,n,ne,nf,d⟩:=I.pin p hp;exact⟨(hs.2 p.1 ne).trans e,n,ne,nf,d⟩
 ·have Qp:X.fn x=true:=by
   rcases hf with z | z
   ·exact z
   ·rw[z]at hk;cases hk
  obtain⟨c,hc⟩:=I.ok.has x (.inl hk);obtain⟨w',z⟩:=I.cell x c hc;refine wpAny_storeName_cell I.ok.kind hk hc z (λh' zd hs=>?_);obtain⟨oc,S9,Qq⟩:=id z;refine h {s with heap:=h'} ⟨I.ok,I.os,I.bare,⟨λb o e n hb hx=>?_,λb o e n hb hx=>?_,I.base.free,λb o e hx=>?_,I.base.eP,I.base.jw,I.base.kh⟩,⟨m,hn.sameBut hs (cK (CT x c hc)),λj y v' e1 e2 e3=>?_⟩,λy c' e=>?_,I.free,I.fi,λp hp=>?_,tracked ⟨oc,S9,I.fi x c hc⟩ hs,by simpa using I.len⟩ ⟨c,hs,.inr hc⟩
  ·exact(hs.2 b (ej (eZ (bL e) (I.ok.Fx x c Qp hc)))).trans (I.base.keep b o e n hb hx)
  ·obtain⟨sl,e1⟩:=I.base.slot b o e n hb hx;exact⟨sl,(hs.2 b (ej (eZ (bL e) (I.ok.Fx x c Qp hc)))).trans e1⟩
  ·obtain⟨o',e1⟩:=I.base.there b o e hx;exact⟨o',(hs.2 b (ej (eZ (bL e) (I.ok.Fx x c Qp hc)))).trans e1⟩
  ·by_cases hj:j=i
   ·subst hj;rw[hi]at e1;cases e1;rw[kS Ly]at e2;cases e2;exact⟨u,r,.inr ⟨.inl hk,c,hc,zd⟩⟩
   ·rw[jr (cK hj)]at e2;obtain⟨u',r',q⟩:=hl j y v' e1 e2 e3;refine⟨u',r',?_⟩;rcases q with q | ⟨k,c',e,z'⟩
    ·exact .inl q
    ·refine .inr ⟨k,c',e,z'.sameBut hs ?_⟩;rintro rfl;exact hj (k7 hN e1 (I.ok.inj _ _ _ e hc▸hi))
  ·by_cases S_:c'=c
   ·subst S_;exact⟨_,zd⟩
   ·obtain⟨w2,z2⟩:=I.cell y c' e;exact⟨w2,z2.sameBut hs S_⟩
  ·obtain⟨e,n,ne,nf,d⟩:=I.pin p hp;refine⟨(hs.2 p.1 ?_).trans e,n,ne,nf,d⟩;intro q;rw[q,S9]at e;have q':oc=p.2:=cU e;exact d w' (by rw[<- q'];exact Qq)
theorem iK{M:Model}{A:Around}{E:Value->Shared->Prop}{i:Nat}{x:Str}{v:V}{u:Value}{Q:Unit->Shared->Prop}(I:Inv X ae σ H s)(hN:X.N.Nodup)(hi:X.N[i]?=some x)(hx:Loc X.env.scope x)(r:RelV v u)(h:∀s',Inv X ae (σ.set i (some v)) H s'->Q () s')(hf:X.fn x=true\/X.env.scope.names.lookup x=some .local:=by first | exact .inl rfl | exact .inr rfl | assumption):wpAny M A (storeName X.env x u) Q E s :=
 xl I hN hi hx r (λs' I' _=>h s' I') hf
theorem Inv.ze{s':Shared}{ch:List Addr}(I:Inv X ae σ H s)(ho:s'.os=s.os)(u:Un (xh X.stack) ch H H' s.heap s'.heap)(bt:gS X.prog X.w H' s'.heap)(hg:AllBare s'.gens)(yy:∀b∈ch,(b∈X.ex\/X.df.heap.objs.size<=b)/\b≠X.env.locals/\(∀x c,X.env.cells.lookup x=some c->c≠b)/\∀p∈X.pn++ae,p.1≠b):Inv X ae σ H' s':=by
 obtain⟨h',g',d',t',o'⟩:=s';have e:o'=s.os:=ho;subst e;exact I.call (g':=g') (t':=t') (d':=d') u bt hg yy
end
abbrev XK:=Value->Option Addr->Hp->Prop
abbrev St:=List (Option V)
abbrev VK:=V->Hp->Prop
abbrev TE:=St->Hp->VK->Prop
abbrev TT:=St->Hp->(Bool->Hp->Prop)->Prop
abbrev TA:=St->Hp->(List V->Hp->Prop)->Prop
structure Ends where
 nx:St->Hp->Prop
 rt:VK
 bk:St->Hp->Prop:=λ_ _=>False
 ct:St->Hp->Prop:=λ_ _=>False
abbrev TS:=Ends->St->Hp->Prop
def EP(X:Cx)(ae:List (Addr×Obj))(σ:St)(Q:VK)(u:Value)(s':Shared):Prop:=∃v H',Inv X ae σ H' s'/\RelV v u/\Q v H'
noncomputable def TP(X:Cx)(ae:List (Addr×Obj))(σ:St)(Q:Bool->Hp->Prop)(b:Bool)(s':Shared):Prop:=∃H',Inv X ae σ H' s'/\Q b H'
noncomputable def AP(X:Cx)(ae:List (Addr×Obj))(σ:St)(Q:List V->Hp->Prop)(us:List Value)(s':Shared):Prop:=∃vs H',Inv X ae σ H' s'/\aP vs us/\Q vs H'
def SP(X:Cx)(ae:List (Addr×Obj))(D:Ends)(f:Flow)(s':Shared):Prop :=
 match f with
 | .next=>∃cI H',Inv X ae cI H' s'/\D.nx cI H'
 | .brk=>∃cI H',Inv X ae cI H' s'/\D.bk cI H'
 | .cont=>∃cI H',Inv X ae cI H' s'/\D.ct cI H'
 | .ret u=>∃v cI H',Inv X ae cI H' s'/\RelV v u/\D.rt v H'
def PE(X:Cx)(e:Expr)(t:TE):Prop :=
 ∀(ae:List (Addr×Obj))(s:Shared)(σ:St)(H:Hp)(Q:VK),Inv X ae σ H s->t σ H Q->wpAny (model X.prog X.w) X.A (eval e X.env) (EP X ae σ Q) X.xe s
def PT(X:Cx)(e:Expr)(t:TT):Prop :=
 ∀(ae:List (Addr×Obj))(s:Shared)(σ:St)(H:Hp)(Q:Bool->Hp->Prop),Inv X ae σ H s->t σ H Q->wpAny (model X.prog X.w) X.A (isTrue e X.env (eval e X.env)) (TP X ae σ Q) X.xe s
def PW(X:Cx)(e:Expr)(t:TT):Prop :=
 ∀(gX:Sem Value)(ae:List (Addr×Obj))(s:Shared)(σ:St)(H:Hp)(Q:Bool->Hp->Prop),Inv X ae σ H s->t σ H Q->wpAny (model X.prog X.w) X.A (isTrue e X.env gX) (TP X ae σ Q) X.xe s
theorem PW.pt{X:Cx}{e:Expr}{t:TT}(h:PW X e t):PT X e t:=h _
def PA(X:Cx)(es:List Expr)(t:TA):Prop :=
 ∀(pos:Pos)(ae:List (Addr×Obj))(s:Shared)(σ:St)(H:Hp)(Q:List V->Hp->Prop),Inv X ae σ H s->t σ H Q->wpAny (model X.prog X.w) X.A (spliced (backTo pos (starEach es X.env))) (AP X ae σ Q) X.xe s
def PS(X:Cx)(st:Stmt)(t:TS):Prop :=
 ∀(ae:List (Addr×Obj))(s:Shared)(σ:St)(H:Hp)(D:Ends),Inv X ae σ H s->t D σ H->wpAny (model X.prog X.w) X.A (exec st X.env) (SP X ae D) X.xe s
def nh(X:Cx)(st:List Stmt)(t:TS):Prop :=
 ∀(ae:List (Addr×Obj))(s:Shared)(σ:St)(H:Hp)(D:Ends),Inv X ae σ H s->t D σ H->wpAny (model X.prog X.w) X.A (execs st X.env) (SP X ae D) X.xe s
theorem bP{α:Type}{t:Sem α}{Q Q':α->Shared->Prop}{M:Model}{A:Around}{E:Value->Shared->Prop}{s:Shared}(h:wpAny M A t Q E s)(hQ:∀a s,Q a s->Q' a s):wpAny M A t Q' E s:=ju h hQ λ_ _ x=>x
section
variable {X:Cx}
theorem bin{a b:Expr}{ta tb:TE}(ha:PE X a ta)(hb:PE X b tb){ae:List (Addr×Obj)}{s:Shared}{σ:St}{H:Hp}{R:V->V->Hp->Prop}(I:Inv X ae σ H s)(h:ta σ H λx H1=>tb σ H1 λy H2=>R x y H2){α:Type}{Q:α->Shared->Prop}{f:Value->Value->Sem α}(hf:∀v u s2 x y H2,Inv X ae σ H2 s2->RelV x v->RelV y u->R x y H2->wpAny (model X.prog X.w) X.A (f v u) Q X.xe s2):wpAny (model X.prog X.w) X.A (eval a X.env) (λv bj=>wpAny (model X.prog X.w) X.A (eval b X.env) (λu xm=>wpAny (model X.prog X.w) X.A (f v u) Q X.xe xm) X.xe bj) X.xe s:=by
 refine bP (ha ae s σ H _ I h) ?_;rintro v s1 ⟨x,H1,I1,r1,q1⟩;refine bP (hb ae s1 σ H1 _ I1 q1) ?_;rintro u s2 ⟨y,H2,I2,r2,q2⟩;exact hf v u s2 x y H2 I2 r1 r2 q2
noncomputable def G2(i:Nat):TE:=λσ H Q=>∃v,σ[i]?=some (some v)/\Q v H
def tC(v:V):TE:=λ_ H Q=>Q v H
theorem gq{i:Nat}{x:Str}{pos:Pos}(hN:X.N[i]?=some x)(hv:Lv X.env.scope x) (hd:(x==("__debug__" : Str))=false:=by decide) (yz:(x==("__classdict__" : Str))=false:=by decide):PE X (.Name x pos) (G2 i):=by
 intro ae s σ H Q I h;obtain⟨v,e,h⟩:=h;obtain⟨m,hn,hl⟩:=I.loc;obtain⟨u,r,l⟩:=hl i x v hN e hv;have fin:EP X ae σ Q u s:=⟨v,H,I,r,h⟩;rcases l with⟨hk,hm⟩|⟨hk,c,hc,vg⟩
 ·exact wpAny_Name (wpAny_loadName_local I.ok.kind hk hn hm fin) hd
 ·rcases hk with hk | hk
  ·exact wpAny_Name (wpAny_loadName_cell I.ok.kind hk hc vg fin) hd
  ·exact wpAny_Name (wpAny_loadName_free I.ok.kind hk hc vg fin yz) hd
theorem oE {i j pos}:PE X (.Constant (.int i) j pos) (tC (.int i)):=λ_ _ _ H _ I h=>wpAny_Constant_int ⟨.int i,H,I.tok _,⟨_,rfl⟩,h⟩
theorem FA {b j pos}:PE X (.Constant (.bool b) j pos) (tC (.bl b)):=λ_ _ _ H _ I h=>Constant_bool ⟨.bl b,H,I,rfl,h⟩
theorem G3 {j pos}:PE X (.Constant .none j pos) (tC .aJ):=λ_ _ _ H _ I h=>Constant_none ⟨.aJ,H,I,rfl,h⟩
theorem oF {x j pos}:PE X (.Constant (.str x) j pos) (tC (.str x)):=λ_ _ _ H _ I h=>Calls.Constant_str ⟨.str x,H,I.tok _,⟨_,rfl⟩,h⟩
noncomputable def Gl(X:Cx)(x:Str):Prop:=X.env.kindOf x=some .globalImplicit
theorem iL{E:Value->Shared->Prop}{ae:List (Addr×Obj)}{s:Shared}{σ:St}{H:Hp}{x:Str}{u:Value}{pos:Pos}{Q:Value->Shared->Prop}(I:Inv X ae σ H s)(hg:Gl X x)(hm:X.mg x=some u)(h:Q u s) (hd:(x==("__debug__" : Str))=false:=by decide):wpAny (model X.prog X.w) X.A (eval (.Name x pos) X.env) Q E s :=
 Calls.Name_function_global I.ok.kind hg (Calls.loadGlobal_global (by rw[I.ok.glob];exact I.mod.glob.keeps I.bk) hm h) hd
theorem oG{E:Value->Shared->Prop}{ae:List (Addr×Obj)}{s:Shared}{σ:St}{H:Hp}{x:Str}{u:Value}{pos:Pos}{Q:Value->Shared->Prop}(I:Inv X ae σ H s)(hg:Gl X x)(hm:X.mg x=none)(hv:bootBuiltins x=some u)(h:Q u s) (hn:x≠ "__name__" := by decide) (hd:(x==("__debug__" : Str))=false:=by decide):wpAny (model X.prog X.w) X.A (eval (.Name x pos) X.env) Q E s:=by
 obtain⟨mb,h1,h2⟩:=I.mod.blt;exact Calls.Name_function_global I.ok.kind hg (Calls.loadGlobal_builtin (by rw[I.ok.glob];exact I.mod.glob.keeps I.bk) hm (by rw[I.ok.blt];exact h1.keeps I.bk) ((h2 x hn).trans hv) h) hd
theorem oH{x:Str}{v:V}{u:Value}{pos:Pos}(hg:Gl X x)(hm:X.mg x=some u)(r:RelV v u) (hd:(x==("__debug__" : Str))=false:=by decide):PE X (.Name x pos) (tC v) :=
 λ_ _ _ H _ I h=>iL I hg hm ⟨v,H,I,r,h⟩ hd
theorem vh{x:Str}{v:V}{u:Value}{pos:Pos}(hg:Gl X x)(hm:X.mg x=none)(hv:bootBuiltins x=some u)(r:RelV v u) (hn:x≠ "__name__" := by decide) (hd:(x==("__debug__" : Str))=false:=by decide):PE X (.Name x pos) (tC v) :=
 λ_ _ _ H _ I h=>oG I hg hm hv ⟨v,H,I,r,h⟩ hn hd
variable {a b:Expr} {ta tb:TE} {pos:Pos}
noncomputable def tB(t:TE):TT:=λσ H Q=>t σ H λx H1=>∃c,x=.bl c/\Q c H1
theorem G4{e:Expr}{t:TE}(h:PE X e t)(he:∀gX,isTrue e X.env gX=(do let v <- gX;standAt e.pos;holding [v] (truthy v)):=by intro _;rfl):PT X e (tB t):=by
 intro ae s σ H Q I hw;refine isTrue_plain (bP (h ae s σ H _ I hw) ?_) (he _);rintro v s1 ⟨x,H1,I1,r1,q1⟩;obtain⟨d,rfl,q⟩:=q1;cases r1;exact oi ⟨H1,I1,q⟩
variable {tA OZ:TT} {ez:List Expr}
noncomputable def Lz(t u:TT):TT:=λσ H Q=>t σ H λc H1=>if c=true then u σ H1 Q else Q false H1
noncomputable def UZ(t u:TT):TT:=λσ H Q=>t σ H λc H1=>if c=true then Q true H1 else u σ H1 Q
def Qr(t:TT):TT:=λσ H Q=>t σ H λc H1=>Q (!c) H1
theorem vj(ha:PT X a tA):PW X (.BoolOp .And [a] pos) tA:=by
 intro wh ae s σ H Q I h;refine isTrue_and (bP (ha ae s σ H Q I h) λc s1 e=>?_)
 cases c with
 | true=>exact isTrue_and_nil e
 | false=>exact e
theorem G5(ha:PT X a tA):PW X (.BoolOp .Or [a] pos) tA:=by
 intro wh ae s σ H Q I h;refine isTrue_or (bP (ha ae s σ H Q I h) λc s1 e=>?_)
 cases c with
 | false=>exact isTrue_or_nil e
 | true=>exact e
theorem zf(ha:PT X a tA)(hb:PW X (.BoolOp .And (b::ez) pos) OZ):PW X (.BoolOp .And (a::b::ez) pos) (Lz tA OZ):=by
 intro wh ae s σ H Q I h;refine isTrue_and (bP (ha ae s σ H _ I h) ?_);rintro c s1 ⟨H1,I1,q1⟩
 cases c with
 | true=>exact hb wh ae s1 σ H1 Q I1 q1
 | false=>exact⟨H1,I1,q1⟩
theorem LB(ha:PT X a tA)(hb:PW X (.BoolOp .Or (b::ez) pos) OZ):PW X (.BoolOp .Or (a::b::ez) pos) (UZ tA OZ):=by
 intro wh ae s σ H Q I h;refine isTrue_or (bP (ha ae s σ H _ I h) ?_);rintro c s1 ⟨H1,I1,q1⟩
 cases c with
 | true=>exact⟨H1,I1,q1⟩
 | false=>exact hb wh ae s1 σ H1 Q I1 q1
theorem G6(ha:PT X a tA):PT X (.UnaryOp .Not a pos) (Qr tA):=by
 intro ae s σ H Q I h;exact isTrue_not (ha ae s σ H (λc H1=>Q (!c) H1) I h)
noncomputable def LC(ta tb:TE):TE:=λσ H Q=>ta σ H λx H1=>∃c,x=.bl c/\if c=true then tb σ H1 Q else Q (.bl false) H1
noncomputable def Qs(ta tb:TE):TE:=λσ H Q=>ta σ H λx H1=>∃c,x=.bl c/\if c=true then Q (.bl true) H1 else tb σ H1 Q
noncomputable def LD(ta:TE):TE:=λσ H Q=>ta σ H λx H1=>∃c,x=.bl c/\Q (.bl (!c)) H1
theorem zg {op} {t:TE} (h:PE X a t):PE X (.BoolOp op [a] pos) t:=λae s σ H Q I hw=>BoolOp_one (h ae s σ H Q I hw)
theorem G7(ha:PE X a ta)(hb:PE X (.BoolOp .And (b::ez) pos) tb):PE X (.BoolOp .And (a::b::ez) pos) (LC ta tb):=by
 intro ae s σ H Q I h;refine BoolOp_and (bP (ha ae s σ H _ I h) ?_);rintro v s1 ⟨x,H1,I1,r1,q1⟩;obtain⟨c,rfl,q1⟩:=q1;cases r1;refine oi ?_
 cases c with
 | true=>exact hb ae s1 σ H1 Q I1 q1
 | false=>exact⟨.bl false,H1,I1,rfl,q1⟩
theorem LF(ha:PE X a ta)(hb:PE X (.BoolOp .Or (b::ez) pos) tb):PE X (.BoolOp .Or (a::b::ez) pos) (Qs ta tb):=by
 intro ae s σ H Q I h;refine BoolOp_or (bP (ha ae s σ H _ I h) ?_);rintro v s1 ⟨x,H1,I1,r1,q1⟩;obtain⟨c,rfl,q1⟩:=q1;cases r1;refine oi ?_
 cases c with
 | false=>exact hb ae s1 σ H1 Q I1 q1
 | true=>exact⟨.bl true,H1,I1,rfl,q1⟩
theorem G8(ha:PE X a ta):PE X (.UnaryOp .Not a pos) (LD ta):=by
 intro ae s σ H Q I h;refine UnaryOp_ (bP (ha ae s σ H _ I h) ?_);rintro v s1 ⟨x,H1,I1,r1,q1⟩;obtain⟨c,rfl,q1⟩:=q1;cases r1;exact not_of (oi ⟨.bl (!c),H1,I1,rfl,q1⟩)
noncomputable def U0(t:TT)(ta tb:TE):TE:=λσ H Q=>t σ H λc H1=>if c=true then ta σ H1 Q else tb σ H1 Q
theorem zh{c:Expr}(hc:PT X c tA)(ha:PE X a ta)(hb:PE X b tb):PE X (.IfExp c a b pos) (U0 tA ta tb):=by
 intro ae s σ H Q I h;refine wpAny_IfExp (bP (hc ae s σ H _ I h) ?_);rintro d s1 ⟨H1,I1,q1⟩
 cases d with
 | true=>exact ha ae s1 σ H1 Q I1 q1
 | false=>exact hb ae s1 σ H1 Q I1 q1
end
def gj(K:Frag)(H:Hp)(a:Addr)(xs:List V):Prop :=
 Rd H a (.lst xs) \/
  ∃(o:Obj) (aC:Array Value) (n:Nat),K.lookup a=some o/\o.cls=.type "list" /\ o.dict=none/\o.data=.seq aC n/\aC.size<=sizeLine/\aP xs aC.toList
def gU(K:Frag)(H:Hp)(a:Addr)(xs:List V):Prop :=
 Rd H a (.tup xs) \/
  ∃(o:Obj) (aC:Array Value) (n:Nat),K.lookup a=some o/\o.cls=.type "tuple" /\ o.data=.seq aC n/\aC.size<=sizeLine/\aP xs aC.toList
noncomputable def Qt:Value->Option V
 | .none=>some .aJ
 | .bool b=>some (.bl b)
 | .int i _=>some (.int i)
 | .str x _=>some (.str x)
 | .bytes b _=>some (.GW b)
 | .float b _=>some (.Fw b)
 | .ref a=>some (.ref a)
 | .type n=>some (.ty n)
 | _=>none
theorem RelV.abs{x:V}{u:Value}(r:RelV x u):Qt u=some x:=by
 cases x with
 | aJ=>cases r;rfl
 | bl _=>cases r;rfl
 | int _=>obtain⟨t,rfl⟩:=r;rfl
 | str _=>obtain⟨t,rfl⟩:=r;rfl
 | GW _=>obtain⟨t,rfl⟩:=r;rfl
 | Fw _=>obtain⟨t,rfl⟩:=r;rfl
 | ref _=>cases r;rfl
 | ty _=>cases r;rfl
theorem RelV.inj{x y:V}{u:Value}(r:RelV x u)(q:RelV y u):x=y:=cU (r.abs.symm.trans q.abs)
theorem aP.inj:∀{xs ys:List V}{us:List Value},aP xs us->aP ys us->xs=ys
 | _,_,_,.nil,.nil=>rfl
 | _,_,_,.cons r t,.cons r' t'=>by rw[r.inj r',aP.inj t t']
section
variable {X:Cx} {ae:List (Addr×Obj)} {σ:St} {H:Hp} {s:Shared} {a:Addr} {xs ys:List V}
theorem gj.of{K:Frag}(h:H a=some (.lst xs)):gj K H a xs:=.inl (.inl h)
theorem gU.of{K:Frag}(h:H a=some (.tup xs)):gU K H a xs:=.inl (.inl h)
theorem Inv.list(I:Inv X ae σ H s)(h:gj X.K H a xs):∃aC:List Value,aP xs aC/\PlainL s.heap a aC.toArray/\xs.length<=sizeLine:=by
 rcases h with h | ⟨o,aC,n,hk,hc,hd,hs,hz,r⟩
 ·obtain⟨z,aC,n,r,e⟩:=h.ok I.bt;exact⟨aC,r,⟨_,n,e,rfl,rfl,rfl⟩,z⟩
 ·refine⟨aC.toList,r,⟨o,n,I.jn a o hk,hc,hd,by simpa using hs⟩,?_⟩;have e:=r.length;simp only[sZ]at e;omega
theorem Inv.tuple(I:Inv X ae σ H s)(h:gU X.K H a xs):∃aC:List Value,aP xs aC/\IsTup s.heap a aC.toArray/\xs.length<=sizeLine:=by
 rcases h with h | ⟨o,aC,n,hk,hc,hs,hz,r⟩
 ·obtain⟨z,aC,r,p⟩:=h.ok I.bt;exact⟨aC,r,p,z⟩
 ·refine⟨aC.toList,r,⟨o,I.jn a o hk,hc,n,by simpa using hs⟩,?_⟩;have e:=r.length;simp only[sZ]at e;omega
theorem Inv.zi(I:Inv X ae σ H s)(h:gj X.K H a xs)(h':gj X.K H a ys):xs=ys:=by
 obtain⟨aC,r,⟨o,n,e,_,_,d⟩,_⟩:=I.list h;obtain⟨its',r',⟨o',n',e',_,_,d'⟩,_⟩:=I.list h';rw[e]at e';cases e';rw[d]at d';injection d' with d1 _;have:aC=its':=by simpa using oq Array.toList d1
 subst this;exact r.inj r'
theorem Inv.xn(I:Inv X ae σ H s)(h:gU X.K H a xs)(h':gU X.K H a ys):xs=ys:=by
 obtain⟨aC,r,⟨o,e,_,n,d⟩,_⟩:=I.tuple h;obtain⟨its',r',⟨o',e',_,n',d'⟩,_⟩:=I.tuple h';rw[e]at e';cases e';rw[d]at d';injection d' with d1 _;have:aC=its':=by simpa using oq Array.toList d1
 subst this;exact r.inj r'
end
abbrev Cx.k8(X:Cx)(E:Value->Shared->Prop):Cx:={X with xe:=E}
abbrev Cx.FC(X:Cx):Cx:=X.k8 λ_ _=>False
theorem Cx.Ok.k8{X:Cx}(ok:X.Ok)(E:Value->Shared->Prop):(X.k8 E).Ok :=
 ⟨ok.mod,ok.kind,ok.glob,ok.blt,ok.above,ok.inj,ok.has,ok.Fx,ok.hd,ok.frames,ok.vd,ok.OX,ok.bs,ok.Cg,ok.xj,ok.xk,ok.jx,ok.Fy⟩
theorem Cx.Ok.fD{X:Cx}{E:Value->Shared->Prop}(ok:(X.k8 E).Ok):X.Ok :=
 ⟨ok.mod,ok.kind,ok.glob,ok.blt,ok.above,ok.inj,ok.has,ok.Fx,ok.hd,ok.frames,ok.vd,ok.OX,ok.bs,ok.Cg,ok.xj,ok.xk,ok.jx,ok.Fy⟩
section
variable {X:Cx} {ae:List (Addr×Obj)} {σ:St} {H:Hp} {s:Shared} {E:Value->Shared->Prop}
theorem Inv.k8(I:Inv X ae σ H s)(E:Value->Shared->Prop):Inv (X.k8 E) ae σ H s:=⟨I.ok.k8 E,I.os,I.bare,I.base,I.loc,I.cell,I.free,I.fi,I.pin,I.bt,I.len⟩
theorem Inv.fD(I:Inv (X.k8 E) ae σ H s):Inv X ae σ H s:=⟨I.ok.fD,I.os,I.bare,I.base,I.loc,I.cell,I.free,I.fi,I.pin,I.bt,I.len⟩
theorem SP.fD{D:Ends}{f:Flow}{s':Shared}(h:SP (X.k8 E) ae D f s'):SP X ae D f s':=by
 cases f with
 | next=>obtain⟨cI,H',I,q⟩:=h;exact⟨cI,H',I.fD,q⟩
 | brk=>obtain⟨cI,H',I,q⟩:=h;exact⟨cI,H',I.fD,q⟩
 | cont=>obtain⟨cI,H',I,q⟩:=h;exact⟨cI,H',I.fD,q⟩
 | ret u=>obtain⟨v,cI,H',I,r,q⟩:=h;exact⟨v,cI,H',I.fD,r,q⟩
theorem nh.FC{st:List Stmt}{t:TS}(h:nh X.FC st t):nh X st t:=λae s σ H D I hw =>
 ju (h ae s σ H D (I.k8 _) hw) (λ_ _ q=>q.fD) λ_ _ z=>False.elim z
end
section
variable {X:Cx} {st:Stmt} {ez:List Stmt} {t u:TS} {e:Expr} {te:TE} {pos:Pos}
def FD:TS:=λD σ H=>D.nx σ H
def LG(t u:TS):TS:=λD σ H=>t {D with nx:=u D} σ H
theorem oJ:nh X [] FD:=λ_ _ σ H _ I h=>yS ⟨σ,H,I,h⟩
theorem gr(h1:PS X st t)(h2:nh X ez u):nh X (st::ez) (LG t u):=by
 intro ae s σ H D I h;refine wpAny_execs_cons (bP (h1 ae s σ H {D with nx:=u D} I h) λf s1 q=>?_)
 cases f with
 | next =>
  obtain⟨cI,H',I',q⟩:=q;exact h2 ae s1 cI H' D I' q
 | ret v=>exact q
 | brk=>exact q
 | cont=>exact q
theorem iM(h1:PS X st t):nh X [st] t:=by
 intro ae s σ H D I h;refine wpAny_execs_cons (bP (h1 ae s σ H D I h) λf s1 q=>?_)
 cases f with
 | next=>exact yS q
 | ret v=>exact q
 | brk=>exact q
 | cont=>exact q
def G9:TS:=λD σ H=>D.bk σ H
def LH:TS:=λD σ H=>D.ct σ H
theorem CU:PS X (.Pass pos) FD:=λ_ _ σ H _ I h=>wpAny_Pass ⟨σ,H,I,h⟩
theorem zj:PS X (.Break pos) G9:=λ_ _ σ H _ I h=>wpAny_Break ⟨σ,H,I,h⟩
theorem qM:PS X (.Continue pos) LH:=λ_ _ σ H _ I h=>wpAny_Continue ⟨σ,H,I,h⟩
theorem Inv.quiet{ae:List (Addr×Obj)}{σ:St}{H:Hp}{s:Shared}(I:Inv X ae σ H s):interactive X.env=false:=by simp[interactive,I.ok.kind]
def LI(te:TE):TS:=λD σ H=>te σ H λ_ H1=>D.nx σ H1
theorem CV(he:PE X e te)(hs:swapsWith e none pos.line X.env=pure false:=by rfl):PS X (.Expr e pos) (LI te):=by
 intro ae s σ H D I h;exact wpAny_Expr_any (bP (he ae s σ H _ I h) λv s1 ⟨x,H1,I1,r1,q1⟩=>⟨σ,H1,I1,q1⟩) I.quiet hs
def Qu(te:TE):TS:=λD σ H=>te σ H D.rt
theorem zk(he:PE X e te):PS X (.Return (some e) pos) (Qu te):=by
 intro ae s σ H D I h;exact wpAny_Return_some (bP (he ae s σ H _ I h) λv s1 ⟨x,H1,I1,r1,q1⟩=>⟨x,σ,H1,I1,r1,q1⟩)
def LJ:TS:=λD _ H=>D.rt .aJ H
theorem CW:PS X (.Return none pos) LJ:=λ_ _ σ H _ I h=>wpAny_Return_none ⟨.aJ,σ,H,I,rfl,h⟩
noncomputable def Qv(c:TT)(t u:TS):TS:=λD σ H=>c σ H λb H1=>if b=true then t D σ H1 else u D σ H1
theorem zl{c:Expr}{a b:List Stmt}{tc:TT}(hc:PT X c tc)(ha:nh X a t)(hb:nh X b u):PS X (.If c a b pos) (Qv tc t u):=by
 intro ae s σ H D I h;refine wpAny_If (bP (hc ae s σ H _ I h) ?_);rintro d s1 ⟨H1,I1,q1⟩
 cases d with
 | true=>exact ha ae s1 σ H1 D I1 q1
 | false=>exact hb ae s1 σ H1 D I1 q1
def G_:TS:=λ_ _ _=>False
theorem zm:PS X st G_:=λ_ _ _ _ _ _ h=>h.elim
end
abbrev TG:=V->St->Hp->(St->Hp->Prop)->Prop
abbrev FE:=List V->St->Hp->(St->Hp->Prop)->Prop
def PG(X:Cx)(jy:Expr)(t:TG):Prop :=
 ∀(ae:List (Addr×Obj))(s:Shared)(σ:St)(H:Hp)(v:V)(u:Value)(Q:St->Hp->Prop),Inv X ae σ H s->RelV v u->t v σ H Q ->
  wpAny (model X.prog X.w) X.A (assign jy X.env u) (λ_ s'=>∃cI H',Inv X ae cI H' s'/\Q cI H') X.xe s
noncomputable def Ku(X:Cx)(ts:List Expr)(t:FE):Prop :=
 ∀(ae:List (Addr×Obj))(s:Shared)(σ:St)(H:Hp)(vs:List V)(us:List Value)(Q:St->Hp->Prop),Inv X ae σ H s->aP vs us->t vs σ H Q ->
  wpAny (model X.prog X.w) X.A (assignInOrder ((assignEach ts X.env).map (·.2)) us) (λ_ s'=>∃cI H',Inv X ae cI H' s'/\Q cI H') X.xe s
abbrev CY:=V->V->V->Hp->(Hp->Prop)->Prop
def Ha(X:Cx)(t:CY):Prop :=
 ∀(ae:List (Addr×Obj))(s:Shared)(σ:St)(H:Hp)(o i v:V)(ov iv u:Value)(Q:Hp->Prop),Inv X ae σ H s->RelV o ov->RelV i iv->RelV v u->t o i v H Q ->
  wpAny (model X.prog X.w) X.A (setItem ov iv u) (λ_ s'=>∃H',Inv X ae σ H' s'/\Q H') X.xe s
section
variable {X:Cx} {pos:Pos}
def vk(i:Nat):TG:=λv σ H Q=>Q (σ.set i (some v)) H
theorem oK{i:Nat}{x:Str}(hN:X.N.Nodup)(hi:X.N[i]?=some x)(hx:Loc X.env.scope x)(hf:X.fn x=true\/X.env.scope.names.lookup x=some .local:=by first | exact .inl rfl | exact .inr rfl | assumption):PG X (.Name x pos) (vk i):=by
 intro ae s σ H v u Q I r h;exact wpAny_assign_Name (iK I hN hi hx r (λs' I'=>⟨_,H,I',h⟩) hf)
def LK:FE:=λvs σ H Q=>vs=[]/\Q σ H
noncomputable def FF(t:TG)(u:FE):FE:=λvs σ H Q=>∃v r,vs=v::r/\t v σ H λcI H'=>u r cI H' Q
theorem CZ:Ku X [] LK:=by
 intro ae s σ H vs us Q I r h;obtain⟨e,h⟩:=h;subst e;cases r;exact assignInOrder_nil ⟨σ,H,I,h⟩
theorem zo{e:Expr}{es:List Expr}{t:TG}{u:FE}(h1:PG X e t)(h2:Ku X es u)(hs:(assignEach (e::es) X.env).map (·.2)=assign e X.env::(assignEach es X.env).map (·.2):=by rfl):Ku X (e::es) (FF t u):=by
 intro ae s σ H vs us Q I r h;obtain⟨v,vr,e1,h⟩:=h;subst e1
 cases r with
 | cons r rr =>
  rw[hs];refine assignInOrder_cons (bP (h1 ae s σ H _ _ _ I r h) ?_);rintro _ s1 ⟨Ta,H1,I1,q1⟩;exact h2 ae s1 Ta H1 _ _ Q I1 rr q1
def Qw(K:Frag)(n:Nat)(t:FE):TG:=λv σ H Q=>∃a xs,v=.ref a/\gU K H a xs/\xs.length=n/\t xs σ H Q
theorem Hb{es:List Expr}{k:Nat}{t:FE}{n:Nat}(hc:X.calm=true)(h:Ku X es t)(hn:(assignEach es X.env).length=n:=by rfl)(e6:(assignEach es X.env).findIdx? (·.1)=none:=by rfl):PG X (.Tuple es k pos) (Qw X.K n t):=by
 intro ae s σ H v u Q I r hw;obtain⟨a,xs,e1,hq,hl,hw⟩:=hw;subst e1;cases r;obtain⟨aC,rv,ht,hz⟩:=I.tuple hq;refine assign_Tuple_tuple (I.ok.hd hc) ht (by simp[hn,<- hl,rv.length]) e6 λh' hx=>?_;have I1:Inv X ae σ H {s with heap:=h'}:=I.kept (t':=s.toks) λb o e=>hx b o (ej (bL e)) e;exact h ae _ σ H xs _ Q I1 (by simpa using rv) hw
noncomputable def Qx(to ti:TE)(t:CY):TG:=λv σ H Q=>to σ H λo H1=>ti σ H1 λi H2=>t o i v H2 λH3=>Q σ H3
theorem Hc {o i : Expr} {to ti : TE} {t : CY} (ho : PE X o to) (hi : PE X i ti) (hs : Ha X t)
    (ha:∀v,assign (.Subscript o i pos) X.env v=(do
      let ov <- holding [v] (eval o X.env)
      let iv <- holding [v,ov] (eval i X.env)
      standAt pos
      holding [v,ov,iv] (setItem ov iv v)
      release [v,ov,iv] []):=by intro _;rfl):PG X (.Subscript o i pos) (Qx to ti t):=by
  intro ae s σ H v u Q I r h;rw[ha];refine au (kX (bP (ho ae s σ H _ I h) ?_));rintro ov s1 ⟨x,H1,I1,r1,q1⟩;refine au (kX (bP (hi ae s1 σ H1 _ I1 q1) ?_));rintro iv s2 ⟨y,H2,I2,r2,q2⟩;refine au (w_ (au (kX (bP (hs ae s2 σ H2 x y v ov iv u _ I2 r1 r2 r q2) ?_))));rintro _ s3 ⟨H3,I3,q3⟩;exact wpAny_release ⟨σ,H3,I3,q3⟩
noncomputable def C0(te:TE)(g:TG):TS:=λD σ H=>te σ H λx H1=>g x σ H1 D.nx
theorem tq{tg e:Expr}{te:TE}{g:TG}(he:PE X e te)(hg:PG X tg g)(hs:swapsWithSole [tg] e pos.line X.env=pure false:=by rfl)(hw:swappedStores [tg] e X.env=pure none:=by rfl)(h1:(assignEach [tg] X.env).map (·.2)=[assign tg X.env]:=by rfl):PS X (.Assign [tg] e pos) (C0 te g):=by
 intro ae s σ H D I h;refine wpAny_Assign_stores (bP (he ae s σ H _ I h) ?_) hs hw;rintro v s1 ⟨x,H1,I1,r1,q1⟩;rw[h1];exact bP (hg ae s1 σ H1 x v _ I1 r1 q1) λ_ s2 q=>q
theorem tu{i:Nat}{x:Str}{e:Expr}{te:TE}{xo:Pos}(hN:X.N.Nodup)(hi:X.N[i]?=some x)(hx:Loc X.env.scope x)(he:PE X e te)(hs:swapsWith e (some (.Name x xo)) pos.line X.env=pure false:=by rfl)(hf:X.fn x=true\/X.env.scope.names.lookup x=some .local:=by first | exact .inl rfl | exact .inr rfl | assumption):PS X (.Assign [.Name x xo] e pos) (C0 te (vk i)):=by
 intro ae s σ H D I h;refine wpAny_Assign_Name (bP (he ae s σ H _ I h) ?_) hs;rintro v s1 ⟨y,H1,I1,r1,q1⟩;exact iK I1 hN hi hx r1 (λs2 I2=>⟨_,H1,I2,q1⟩) hf
end
structure It where
 go:Nat->Hp->Prop
 LL:Nat->Hp->V->Hp->Prop
 stop:Nat->Hp->Prop
noncomputable def mQ(X:Cx)(ae:List (Addr×Obj))(H:Hp)(b:Addr):Prop :=
 H b=none/\b≠X.env.locals/\b∉X.fs/\(b∈X.ex\/X.df.heap.objs.size<=b)/\(∀x c,X.env.cells.lookup x=some c->c≠b)/\∀p∈X.pn++ae,p.1≠b
theorem Inv.Hd{X:Cx}{ae:List (Addr×Obj)}{σ:St}{H H':Hp}{s:Shared}{b:Addr}(I:Inv X ae σ H s)(hb:s.heap.objs.size<=b)(hn:H' b=none):mQ X ae H' b:=by
 refine⟨hn,Nat.ne_of_gt (eZ I.lt hb),I.Lw hb,.inr (cJ I.sz hb),λx c e z=>?_,λp hp z=>?_⟩
 ·obtain⟨v,q⟩:=I.cell x c e;exact absurd (eZ q.lt (by rw[z];exact hb)) (iJ _)
 ·exact absurd (eZ (bL (I.pin p hp).1) (by rw[z];exact hb)) (iJ _)
structure zp (P:Program) (w:World) (K:Frag) (tg:Expr) (J:It) (fp:List Addr) (it:Addr) (tn:Nat->Heap->Prop):Prop where
 mem:it∈fp
 obj:∀i h,tn i h->∀b∈fp,∃o,h.get? b=some o/\∀v,o.data≠.cell v
 keep:∀i h h',tn i h->(∀b∈fp,∀o,h.get? b=some o->h'.get? b=some o)->tn i h'
 item:∀(X:Cx),X.prog=P->X.w=w->X.K=K->X.calm=true->∀(i:Nat)(ae:List (Addr×Obj))(s:Shared)(σ:St)(H:Hp)(E:Value->Shared->Prop),Inv X ae σ H s->(∀b∈fp,mQ X ae H b)->tn i s.heap->J.go i H ->
  wpAny (model P w) X.A (pyNext (.ref it)) (λr s1=>∃u,r=some u /\
   wpAny (model P w) X.A (letOwnedTupleGo tg (.ref it) u) (λ_ s2=>∃x H',Inv X ae σ H' s2/\RelV x u/\J.LL i H x H'/\tn (i+1) s2.heap/\∀b∈fp,H' b=none) E s1) E s
 done:∀(X:Cx),X.prog=P->X.w=w->X.K=K->X.calm=true->∀(i:Nat)(ae:List (Addr×Obj))(s:Shared)(σ:St)(H:Hp)(E:Value->Shared->Prop),Inv X ae σ H s->(∀b∈fp,mQ X ae H b)->tn i s.heap->J.stop i H ->
  wpAny (model P w) X.A (pyNext (.ref it)) (λr s1=>r=none/\Inv X ae σ H s1) E s
 self:∀(A:Around)(i:Nat)(s:Shared)(Q:Value->Shared->Prop)(E:Value->Shared->Prop),tn i s.heap->Q (.ref it) s->wpAny (model P w) A (pyIter (.ref it)) Q E s
abbrev TI:=St->Hp->(It->Hp->Prop)->Prop
def Tc(X:Cx)(ae:List (Addr×Obj))(σ:St)(tg:Expr)(R:It->Hp->Prop)(O0:Value)(s2:Shared):Prop :=
 ∃(it:Addr) (fp:List Addr) (tn:Nat->Heap->Prop) (J:It) (H':Hp),O0=.ref it/\Inv X ae σ H' s2/\zp X.prog X.w X.K tg J fp it tn/\tn 0 s2.heap/\(∀b∈fp,mQ X ae H' b)/\R J H'
def PI(X:Cx)(tg aH:Expr)(wi:TI):Prop :=
 ∀(ae:List (Addr×Obj))(s:Shared)(σ:St)(H:Hp)(R:It->Hp->Prop),Inv X ae σ H s->wi σ H R ->
  wpAny (model X.prog X.w) X.A (eval aH X.env) (λv s1=>wpAny (model X.prog X.w) X.A (pyIter v) (Tc X ae σ tg R) X.xe s1) X.xe s
theorem zq{M:Model}{A:Around}{E:Value->Shared->Prop}{s:Shared}{tg:Expr}{it:Addr}{u:Value}{o:Obj}{n:String}{vs:Array Value}{Q:Unit->Shared->Prop}(ho:s.heap.get? it=some o)(hc:o.cls=.type n)(hd:o.data=.fields vs) (hn:["enumerate","zip","dict_itemiterator","dict_reverseitemiterator","odict_iterator","itertools.zip_longest","itertools.pairwise"].contains n=false) (hQ:Q () s):wpAny M A (letOwnedTupleGo tg (.ref it) u) Q E s:=by
  unfold letOwnedTupleGo
  cases tg<;>first
    | exact aO hQ
    | (cases u <;> first
        | exact aO hQ
        | (refine au (wpAny_load ho ?_)
           rw[hc,hd];show wpAny M A (if (["enumerate","zip","dict_itemiterator","dict_reverseitemiterator","odict_iterator","itertools.zip_longest","itertools.pairwise"].contains n&&vs[0]? == some (rawInt _))=true then _ else _) Q E s;rw[a8 (by intro h;rw[hn,yX]at h;cases h)];exact aO hQ))
def Qy(K:Frag)(a:Addr):It :=
 ⟨λi H=>∃xs x,gj K H a xs/\xs[i]?=some x,λi H x H'=>H'=H/\∀xs,gj K H a xs->xs[i]?=some x,λi H=>∃xs,gj K H a xs/\xs.length<=i⟩
def Qz(K:Frag)(a:Addr):It :=
 ⟨λi H=>∃xs x,gU K H a xs/\xs[i]?=some x,λi H x H'=>H'=H/\∀xs,gU K H a xs->xs[i]?=some x,λi H=>∃xs,gU K H a xs/\xs.length<=i⟩
noncomputable def O1(lo:Int)(n:Nat):It:=⟨λi _=>i<n,λi H x H'=>H'=H/\x=.int (lo+i),λi _=>n<=i⟩
theorem xq{P:Program}{w:World}{K:Frag}{tg:Expr}(a it:Addr):zp P w K tg (Qy K a) [it] it (λi h=>h.IsListIter it a i) where
 mem:=by simp
 obj:=λi h st b hb=>by
  have e:b=it:=by simpa using hb
  subst e;obtain⟨o,e,c,d⟩:=st;exact⟨o,e,λv z=>by rw[d]at z;cases z⟩
 keep:=λi h h' st k=>st.at λo e=>k it (by simp) o e
 item:=by
  intro X hP hw hK hc i ae s σ H E I hf st hg;subst hP hw hK;obtain⟨xs,x,hq,hx⟩:=hg;obtain⟨aC,rv,p,hz⟩:=I.list hq;obtain⟨u,hu,ru⟩:=rv.get hx;obtain⟨f0,f1,f2,f3,f4,f5⟩:=hf it (by simp);refine wpAny_pyNext_list_item st p.isList (x:=u) (by simpa using hu) λh' FG sb=>?_;have I1:Inv X ae σ H {s with heap:=h'}:=I.turned (t':=s.toks) (λb o hb e=>(sb.2 b hb).trans e) f0 f1 f3 f4 f5;obtain⟨o,e,c,d⟩:=id FG;exact⟨u,rfl,zq (s:={s with heap:=h'}) e c d (by decide) ⟨x,H,I1,ru,⟨rfl,λys hy=>by rw[I.zi hy hq];exact hx⟩,FG,λb hb=>(hf b hb).1⟩⟩
 done:=by
  intro X hP hw hK hc i ae s σ H E I hf st hg;subst hP hw hK;obtain⟨xs,hq,hx⟩:=hg;obtain⟨aC,rv,p,hz⟩:=I.list hq;obtain⟨f0,f1,f2,f3,f4,f5⟩:=hf it (by simp);have hl:=rv.length;exact wpAny_pyNext_list_end (I.ok.hd hc) st p.isList (by simp;omega) λh' eb=>⟨rfl,I.turned (t':=s.toks) (λb o hb e=>eb b o hb e) f0 f1 f3 f4 f5⟩
 self:=λ_ _ _ _ _ st h=>wpAny_pyIter_listiter st h
theorem tw{P:Program}{w:World}{K:Frag}{tg:Expr}(a it:Addr):zp P w K tg (Qz K a) [it] it (λi h=>h.IsTupleIter it a i) where
 mem:=by simp
 obj:=λi h st b hb=>by
  have e:b=it:=by simpa using hb
  subst e;obtain⟨o,e,c,d⟩:=st;exact⟨o,e,λv z=>by rw[d]at z;cases z⟩
 keep:=λi h h' st k=>st.at λo e=>k it (by simp) o e
 item:=by
  intro X hP hw hK hc i ae s σ H E I hf st hg;subst hP hw hK;obtain⟨xs,x,hq,hx⟩:=hg;obtain⟨aC,rv,p,hz⟩:=I.tuple hq;obtain⟨u,hu,ru⟩:=rv.get hx;obtain⟨f0,f1,f2,f3,f4,f5⟩:=hf it (by simp);refine wpAny_pyNext_tuple_item st (show s.heap.IsTuple a aC.toArray from p) (x:=u) (by simpa using hu) λh' FG sb=>?_;have I1:Inv X ae σ H {s with heap:=h'}:=I.turned (t':=s.toks) (λb o hb e=>(sb.2 b hb).trans e) f0 f1 f3 f4 f5;obtain⟨o,e,c,d⟩:=id FG;exact⟨u,rfl,zq (s:={s with heap:=h'}) e c d (by decide) ⟨x,H,I1,ru,⟨rfl,λys hy=>by rw[I.xn hy hq];exact hx⟩,FG,λb hb=>(hf b hb).1⟩⟩
 done:=by
  intro X hP hw hK hc i ae s σ H E I hf st hg;subst hP hw hK;obtain⟨xs,hq,hx⟩:=hg;obtain⟨aC,rv,p,hz⟩:=I.tuple hq;obtain⟨f0,f1,f2,f3,f4,f5⟩:=hf it (by simp);have hl:=rv.length;exact wpAny_pyNext_tuple_end (I.ok.hd hc) st (show s.heap.IsTuple a aC.toArray from p) (by simp;omega) λh' eb=>⟨rfl,I.turned (t':=s.toks) (λb o hb e=>eb b o hb e) f0 f1 f3 f4 f5⟩
 self:=λ_ _ _ _ _ st h=>wpAny_pyIter_tupleiter st h
theorem tx{P:Program}{w:World}{K:Frag}{tg:Expr}(it:Addr)(lo:Int)(n:Nat):zp P w K tg (O1 lo n) [it] it (λi h=>IsRangeIter h it (lo+(i:Nat)*1) ((n:Int)-(i:Nat)) 1) where
 mem:=by simp
 obj:=λi h st b hb=>by
  have e:b=it:=by simpa using hb
  subst e
  exact⟨_,st,λv z=>by
   have z':Data.fields _=Data.cell v:=z;cases z'⟩
 keep:=λi h h' st k=>k it (by simp) _ st
 item:=by
  intro X hP hw hK hc i ae s σ H E I hf st hg;subst hP hw hK;obtain⟨f0,f1,f2,f3,f4,f5⟩:=hf it (by simp);have W:=Walks.range (prog:=X.prog) (w:=X.w) (I.ok.hd hc) it lo 1 n;refine W.item i s _ _ hg st λv h' tk hv FG kk=>?_;obtain⟨t,rfl⟩:=hv;have I1:Inv X ae σ H {s with heap:=h',toks:=tk}:=I.turned (λb o hb e=>kk b o (by simpa using hb) e) f0 f1 f3 f4 f5;refine⟨_,rfl,zq (s:={s with heap:=h',toks:=tk}) (n := "range_iterator") FG rfl rfl (by decide) ⟨.int (lo+i),H,I1,⟨t,?_⟩,⟨rfl,rfl⟩,FG,λb hb=>(hf b hb).1⟩⟩;rw[Int.mul_one]
 done:=by
  intro X hP hw hK hc i ae s σ H E I hf st hg;subst hP hw hK;obtain⟨f0,f1,f2,f3,f4,f5⟩:=hf it (by simp);exact wpAny_pyNext_range_end (I.ok.hd hc) st (by have:n<=i:=hg;omega) λh' eb=>⟨rfl,I.turned (t':=s.toks) (λb o hb e=>eb b o hb e) f0 f1 f3 f4 f5⟩
 self:=λ_ _ _ _ _ st h=>wpAny_pyIter_rangeiter st h
section
variable {X:Cx} {tg:Expr}
def LM(K:Frag)(tl:TE):TI:=λσ H R=>tl σ H λx H1=>∃a,x=.ref a/\(∃xs,gj K H1 a xs)/\R (Qy K a) H1
def QA(K:Frag)(tl:TE):TI:=λσ H R=>tl σ H λx H1=>∃a,x=.ref a/\(∃xs,gU K H1 a xs)/\R (Qz K a) H1
theorem oM{l:Expr}{tl:TE}(hl:PE X l tl):PI X tg l (LM X.K tl):=by
 intro ae s σ H R I h;refine bP (hl ae s σ H _ I h) ?_;rintro v s1 ⟨x,H1,I1,r1,q1⟩;obtain⟨a,e,⟨xs,hq⟩,q⟩:=q1;subst e;cases r1;obtain⟨aC,rv,p,hz⟩:=I1.list hq;refine wpAny_pyIter_list p.isList ?_;refine⟨s1.heap.objs.size,[s1.heap.objs.size],_,_,H1,rfl,I1.kept (t':=s1.toks) λb o e=>cT _ e,xq a _,⟨_,kT _ rfl,rfl,rfl⟩,λb hb=>?_,q⟩;have e:b=s1.heap.objs.size:=by simpa using hb
 subst e;exact I1.Hd (aL _) (I1.bt.fresh (aL _))
theorem zt{l:Expr}{tl:TE}(hl:PE X l tl):PI X tg l (QA X.K tl):=by
 intro ae s σ H R I h;refine bP (hl ae s σ H _ I h) ?_;rintro v s1 ⟨x,H1,I1,r1,q1⟩;obtain⟨a,e,⟨xs,hq⟩,q⟩:=q1;subst e;cases r1;obtain⟨aC,rv,p,hz⟩:=I1.tuple hq;refine wpAny_pyIter_tuple (show s1.heap.IsTuple a aC.toArray from p) ?_;refine⟨s1.heap.objs.size,[s1.heap.objs.size],_,_,H1,rfl,I1.kept (t':=s1.toks) λb o e=>cT _ e,tw a _,⟨_,kT _ rfl,rfl,rfl⟩,λb hb=>?_,q⟩;have e:b=s1.heap.objs.size:=by simpa using hb
 subst e;exact I1.Hd (aL _) (I1.bt.fresh (aL _))
theorem zu{ae:List (Addr×Obj)}{σ:St}{H:Hp}{s:Shared}{R:It->Hp->Prop}{E:Value->Shared->Prop}{lo hi:Int}{t u v:Tok}{tk:Nat}(I:Inv X ae σ H s)(h1:-(2 ^ 62)<=lo)(h2:lo<2 ^ 62)(h3:-(2 ^ 62)<=hi)(h4:hi<2 ^ 62)(q:R (O1 lo (hi-lo).toNat) H):wpAny (model X.prog X.w) X.A (pyIter (.ref s.heap.objs.size)) (Tc X ae σ tg R) E {s with heap:=s.heap.push {cls:=.type "range",data:=.fields #[.int lo t,.int hi u,.int 1 v]},toks:=tk}:=by
 refine wpAny_pyIter_range (IsRange.new ..) (small_one h1 h2 h3 h4) ?_;have I1:Inv X ae σ H {s with heap:=s.heap.push {cls:=.type "range",data:=.fields #[.int lo t,.int hi u,.int 1 v]},toks:=tk}:=I.kept λb o e=>cT _ e
 refine⟨(s.heap.push {cls:=.type "range",data:=.fields #[.int lo t,.int hi u,.int 1 v]}).objs.size,[(s.heap.push {cls:=.type "range",data:=.fields #[.int lo t,.int hi u,.int 1 v]}).objs.size],_,_,H,rfl,
  I1.kept (t':=tk) λb o e=>cT _ e,tx _ lo (hi-lo).toNat,?_,λb hb=>?_,q⟩
 ·have e1:lo+((0:Nat):Int)*1=lo:=by simp
  have e2:(((hi-lo).toNat:Nat):Int)-((0:Nat):Int)=Builtin.Range.rangeSize lo hi 1:=by rw[rangeSize_one];split<;>omega
  show IsRangeIter _ _ (lo+((0:Nat):Int)*1) ((((hi-lo).toNat:Nat):Int)-((0:Nat):Int)) 1;rw[e1,e2];exact kT _ rfl
 ·have e:b=(s.heap.push {cls:=.type "range",data:=.fields #[.int lo t,.int hi u,.int 1 v]}).objs.size:=by simpa using hb
  subst e;exact I1.Hd (aL _) (I1.bt.fresh (aL _))
def LN(ta:TA):TI:=λσ H R=>ta σ H λvs H1=>∃j:Int,vs=[.int j]/\-(2 ^ 62)<=j/\j<2 ^ 62/\R (O1 0 j.toNat) H1
theorem xr{a:Expr}{ta:TA}{p pos:Pos} (hg:Gl X "range") (hm:X.mg "range" = none) (ha:PA X [a] ta) (hs:starEach [a] X.env=[(false,eval a X.env)]:=by rfl):PI X tg (.Call (.Name "range" p) [a] [] pos) (LN ta):=by
 intro ae s σ H R I h;refine Call_ (oG I hg hm boot_range (PyProof.Rows.callWith_type1 (bP (ha pos ae s σ H _ I h) ?_) hs rfl));rintro us s1 ⟨vs,H1,I1,r1,q1⟩;obtain⟨j,e,q1,q2,q⟩:=q1;subst e
 cases r1 with
 | cons r rr =>
  cases rr;obtain⟨t,rfl⟩:=r;exact call_range_1 (zu I1 ∅ ∅ q1 q2 (by simpa using q))
noncomputable def QB(wi:TI)(g:TG)(tb:TS):TS:=λD σ H=>wi σ H λJ H1=>∃W:Nat->Nat->St->Hp->Prop,(∃m,W 0 m σ H1)/\∀i m σ H,W i m σ H ->
 (J.stop i H/\D.nx σ H)\/(J.go i H/\∃N:St->Hp->Prop,(∀cI H',N cI H'->∃m',m'<m/\W (i+1) m' cI H')/\∀x H',J.LL i H x H'->g x σ H' λC1 H2=>tb {D with nx:=N,ct:=N,bk:=D.nx} C1 H2)
noncomputable def jz(fp:List Addr)(h:Heap):List (Addr×Obj):=fp.filterMap λb=>(h.get? b).map λo=>(b,o)
theorem fE{fp:List Addr}{h:Heap}{b:Addr}{o:Obj}(hb:b∈fp)(e:h.get? b=some o):(b,o)∈jz fp h:=List.mem_filterMap.mpr ⟨b,hb,by rw[e];rfl⟩
theorem xt{fp:List Addr}{h:Heap}{p:Addr×Obj}(hp:p∈jz fp h):p.1∈fp/\h.get? p.1=some p.2:=by
 obtain⟨b,hb,e⟩:=List.mem_filterMap.mp hp
 cases q:h.get? b with
 | none=>rw[q]at e;cases e
 | some o =>
  rw[q]at e;have e':(b,o)=p:=cU e;subst e';exact⟨hb,q⟩
theorem Inv.pinned{ae:List (Addr×Obj)}{σ:St}{H:Hp}{s:Shared}{fp:List Addr}(I:Inv X ae σ H s)(hf:∀b∈fp,mQ X ae H b)(ho:∀b∈fp,∃o,s.heap.get? b=some o/\∀v,o.data≠.cell v):Inv X (ae++jz fp s.heap) σ H s :=
 I.oC λp hp=>(fX.mp hp).elim (λz=>I.pin p (j9 _ z)) λz=>by
  obtain⟨hb,e⟩:=xt z;obtain⟨f0,f1,f2,_⟩:=hf p.1 hb;obtain⟨o,e',d⟩:=ho p.1 hb;rw[e]at e';cases e';exact⟨e,f0,f1,f2,d⟩
theorem Inv.gu{ae pl:List (Addr×Obj)}{σ:St}{H:Hp}{s:Shared}(I:Inv X (ae++pl) σ H s):Inv X ae σ H s:=I.oC λp hp=>I.pin p (j9 _ (Cv _ hp))
theorem He{aH:Expr}{body:List Stmt}{wi:TI}{g:TG}{tb:TS}{pos:Pos}(hp:PassesOwn (model X.prog X.w) X.A X.env X.xe)(hc:X.calm=true)(hi:PI X tg aH wi)(hg:PG X tg g)(hb:nh X body tb)(hs:∀x,foldedSetIterable aH X.env x=pure x:=by intro _;rfl):PS X (.For tg aH body [] pos) (QB wi g tb):=by
 intro ae s σ H D I h;refine wpAny_For (bP (hi ae s σ H _ I h) λv s1 h1=>bP h1 λO0 s2 h2=>?_) hs;obtain⟨it,fp,tn,J,H2,e,I2,T,C2,f2,W,⟨m0,w0⟩,zv⟩:=h2;subst e;have Hf:∀{H':Hp},(∀b∈fp,H' b=none)->∀b∈fp,mQ X ae H' b:=λhn b hb=>⟨hn b hb,(f2 b hb).2⟩;refine codeAny_forLoop_any (λn s'=>∃i cI H',Inv X ae cI H' s'/\tn i s'.heap/\(∀b∈fp,H' b=none)/\W i n cI H') ?_ m0 ⟨0,σ,H2,I2,C2,λb hb=>(f2 b hb).1,w0⟩;rintro n s3 ⟨i,C3,H3,I3,O2,C4,w3⟩;rcases zv i n C3 H3 w3 with⟨stop,qn⟩|⟨go,N,hN,step⟩
 ·refine yT hp (bP (T.done X rfl rfl rfl hc i ae s3 C3 H3 X.xe I3 (Hf C4) O2 stop) ?_);rintro r s4 ⟨rfl,I4⟩;exact yS ⟨C3,H3,I4,qn⟩
 ·refine yT hp (bP (T.item X rfl rfl rfl hc i ae s3 C3 H3 X.xe I3 (Hf C4) O2 go) ?_);rintro r s4 ⟨u,rfl,h4⟩;refine yT hp (bP h4 ?_);rintro _ s5 ⟨x,H5,I5,r5,y5,Kv,oN⟩;have U1:=I5.pinned (Hf oN) (T.obj _ _ Kv);refine yT hp (bP (hg _ s5 C3 H5 x u _ U1 r5 (step x H5 y5)) ?_);rintro _ s6 ⟨U2,H6,I6,q6⟩;refine yT hp (bP (hb _ s6 U2 H6 _ I6 q6) λf s7 q7=>?_)
  have again:∀{zw:St}{H7:Hp},Inv X (ae++jz fp s5.heap) zw H7 s7->N zw H7->∃m,m<n/\∃i cI H',Inv X ae cI H' s7/\tn i s7.heap/\(∀b∈fp,H' b=none)/\W i m cI H':=λ{zw H7} I7 n7=>by
   obtain⟨m',hm,w7⟩:=hN zw H7 n7;refine⟨m',hm,i+1,zw,H7,I7.gu,T.keep _ _ _ Kv λb hb o e=>(I7.pin (b,o) (j9 _ (j9 _ (fE hb e)))).1,λb hb=>?_,w7⟩;obtain⟨o,e,d⟩:=T.obj _ _ Kv b hb;exact(I7.pin (b,o) (j9 _ (j9 _ (fE hb e)))).2.1
  cases f with
  | next=>obtain⟨zw,H7,I7,n7⟩:=q7;exact again I7 n7
  | cont=>obtain⟨zw,H7,I7,n7⟩:=q7;exact again I7 n7
  | brk=>obtain⟨zw,H7,I7,q7⟩:=q7;exact⟨zw,H7,I7.gu,q7⟩
  | ret v=>obtain⟨x7,zw,H7,I7,r7,q7⟩:=q7;exact⟨x7,zw,H7,I7.gu,r7,q7⟩
end
abbrev R2:=V->V->Hp->VK->Prop
def gY(X:Cx)(f:Value->Value->Sem Value)(r:R2):Prop :=
 ∀(ae:List (Addr×Obj))(s:Shared)(σ:St)(H:Hp)(x y:V)(v u:Value)(Q:VK),Inv X ae σ H s->RelV x v->RelV y u->r x y H Q ->
  wpAny (model X.prog X.w) X.A (f v u) (EP X ae σ Q) X.xe s
def QC(X:Cx)(f:Value->Sem Value)(r:V->Hp->VK->Prop):Prop :=
 ∀(ae:List (Addr×Obj))(s:Shared)(σ:St)(H:Hp)(x:V)(v:Value)(Q:VK),Inv X ae σ H s->RelV x v->r x H Q ->
  wpAny (model X.prog X.w) X.A (f v) (EP X ae σ Q) X.xe s
def dg(X:Cx)(f:Value)(r:List V->Hp->VK->Prop):Prop :=
 ∀(ae:List (Addr×Obj))(s:Shared)(σ:St)(H:Hp)(xs:List V)(us:List Value)(Q:VK),Inv X ae σ H s->aP xs us->r xs H Q ->
  wpAny (model X.prog X.w) X.A (call f us) (EP X ae σ Q) X.xe s
def QD(X:Cx)(r:V->Hp->(Bool->Hp->Prop)->Prop):Prop :=
 ∀(ae:List (Addr×Obj))(s:Shared)(σ:St)(H:Hp)(x:V)(v:Value)(Q:Bool->Hp->Prop),Inv X ae σ H s->RelV x v->r x H Q ->
  wpAny (model X.prog X.w) X.A (truthy v) (TP X ae σ Q) X.xe s
noncomputable def C5(r:R2)(ta tb:TE):TE:=λσ H Q=>ta σ H λx H1=>tb σ H1 λy H2=>r x y H2 Q
noncomputable def U3(r:V->Hp->VK->Prop)(ta:TE):TE:=λσ H Q=>ta σ H λx H1=>r x H1 Q
noncomputable def rI(C:Int->Int->Prop)(g:Int->Int->V):R2:=λx y H Q=>∃i j,x=.int i/\y=.int j/\C i j/\Q (g i j) H
noncomputable def FH(g:Int->Int->V):R2:=λx y H Q=>∃i j,x=.int i/\y=.int j/\Q (g i j) H
noncomputable def rU(g:Int->V):V->Hp->VK->Prop:=λx H Q=>∃i,x=.int i/\Q (g i) H
section
variable {X:Cx} {a b c:Expr} {ta tb tc:TE} {pos:Pos}
theorem Hg(ha:PE X a ta)(hb:PE X b tb){ae:List (Addr×Obj)}{s:Shared}{σ:St}{H:Hp}{R:V->V->Hp->Prop}(I:Inv X ae σ H s)(h:ta σ H λx H1=>tb σ H1 λy H2=>R x y H2){Q:Value->Shared->Prop}{f:Value->Value->Sem Value}(hf:∀v u s2 x y H2,Inv X ae σ H2 s2->RelV x v->RelV y u->R x y H2->wpAny (model X.prog X.w) X.A (f v u) Q X.xe s2):wpAny (model X.prog X.w) X.A (eval a X.env) (λv bj=>wpAny (model X.prog X.w) X.A (eval b X.env) (λu xm=>wpAny (model X.prog X.w) X.A (f v u) Q X.xe xm) X.xe bj) X.xe s:=by
 refine bP (ha ae s σ H _ I h) ?_;rintro v s1 ⟨x,H1,I1,r1,q1⟩;refine bP (hb ae s1 σ H1 _ I1 q1) ?_;rintro u s2 ⟨y,H2,I2,r2,q2⟩;exact hf v u s2 x y H2 I2 r1 r2 q2
theorem LO{op:Operator}{r:R2}(ho:gY X (binaryOp op) r)(ha:PE X a ta)(hb:PE X b tb):PE X (.BinOp a op b pos) (C5 r ta tb):=by
 intro ae s σ H Q I h;exact wpAny_BinOp (Hg ha hb I h λv u s2 x y H2 I2 rx ry q=>ho ae s2 σ H2 x y v u Q I2 rx ry q)
theorem FI{op:UnaryOp}{r:V->Hp->VK->Prop}(ho:QC X (unaryOp op) r)(ha:PE X a ta):PE X (.UnaryOp op a pos) (U3 r ta):=by
 intro ae s σ H Q I h;exact UnaryOp_ (bP (ha ae s σ H _ I h) λv s1 ⟨x,H1,I1,r1,q1⟩=>ho ae s1 σ H1 x v Q I1 r1 q1)
theorem O3{f:Value->Value->Sem Value}{C:Int->Int->Prop}{g:Int->Int->Int}(rule:∀(i j:Int)(t u:Tok)(s:Shared)(Q:Value->Shared->Prop)(E:Value->Shared->Prop),C i j->Q (.int (g i j) s.toks) {s with toks:=s.toks+1}->wpAny (model X.prog X.w) X.A (f (.int i t) (.int j u)) Q E s):gY X f (rI C λi j=>.int (g i j)):=by
 intro ae s σ H x y v u Q I rx ry h;obtain⟨i,j,rfl,rfl,hc,q⟩:=h;obtain⟨t,rfl⟩:=rx;obtain⟨t',rfl⟩:=ry;exact rule i j t t' s _ _ hc ⟨.int (g i j),H,I.tok _,⟨_,rfl⟩,q⟩
theorem LP{f:Value->Value->Sem Value}{g:Int->Int->Int}(rule:∀(i j:Int)(t u:Tok)(s:Shared)(Q:Value->Shared->Prop)(E:Value->Shared->Prop),Q (.int (g i j) s.toks) {s with toks:=s.toks+1}->wpAny (model X.prog X.w) X.A (f (.int i t) (.int j u)) Q E s):gY X f (FH λi j=>.int (g i j)):=by
 intro ae s σ H x y v u Q I rx ry h;obtain⟨i,j,rfl,rfl,q⟩:=h;obtain⟨t,rfl⟩:=rx;obtain⟨t',rfl⟩:=ry;exact rule i j t t' s _ _ ⟨.int (g i j),H,I.tok _,⟨_,rfl⟩,q⟩
theorem C6{f:Value->Value->Sem Value}{g:Int->Int->Bool}(rule:∀(i j:Int)(t u:Tok)(s:Shared)(Q:Value->Shared->Prop)(E:Value->Shared->Prop),Q (.bool (g i j)) s->wpAny (model X.prog X.w) X.A (f (.int i t) (.int j u)) Q E s):gY X f (FH λi j=>.bl (g i j)):=by
 intro ae s σ H x y v u Q I rx ry h;obtain⟨i,j,rfl,rfl,q⟩:=h;obtain⟨t,rfl⟩:=rx;obtain⟨t',rfl⟩:=ry;exact rule i j t t' s _ _ ⟨.bl (g i j),H,I,rfl,q⟩
def QE(i j:Int):Prop:=0<j/\j<1073741824
def QF(i j:Int):Prop:=0<=j/\j<=1000000/\i.natAbs<2 ^ 64
noncomputable def Hh(i j:Int):Prop:=(-(2 ^ 64)<i/\i<2 ^ 64)\/(-(2 ^ 64)<j/\j<2 ^ 64)
theorem Hh.ok{i j:Int}(h:Hh i j):IntMulOk i j:=by
 rcases h with⟨h1,h2⟩|⟨h1,h2⟩
 ·exact .of_left (intBits_le_64 h1 h2)
 ·exact .of_right (intBits_le_64 h1 h2)
theorem Hi:gY X (binaryOp .Add) (FH λi j=>.int (i+j)):=LP λ_ _ _ _ _ _ _ q=>add_int q
theorem Hj:gY X (binaryOp .Sub) (FH λi j=>.int (i-j)):=LP λ_ _ _ _ _ _ _ q=>sub_int q
theorem Hk:gY X (binaryOp .Mult) (rI Hh λi j=>.int (i*j)):=O3 λ_ _ _ _ _ _ _ hc q=>mul_int q hc.ok
theorem C7:gY X (binaryOp .FloorDiv) (rI QE λi j=>.int (i / j)):=O3 λi j _ _ _ _ _ hc q=>by
 have h1:(0:Int)<j:=hc.1;have h2:j<1073741824:=hc.2;exact floordiv_int ∅ (by rw[Int.fdiv_eq_ediv_of_nonneg i ∅];exact q) (.inl (PyProof.noPylong_small ∅))
theorem Hl:gY X (binaryOp .Mod) (rI (λ_ j=>0<j) λi j=>.int (i % j)):=O3 λi j _ _ _ _ _ hc q=>by
 have h1:(0:Int)<j:=hc;exact mod_int' ∅ (by rw[Int.fmod_eq_emod_of_nonneg i ∅];exact q)
theorem Hm:gY X (binaryOp .Pow) (rI QF λi j=>.int (i ^ j.toNat)):=O3 λ_ _ _ _ _ _ _ hc q=>pow_int_small hc.1 hc.2.1 hc.2.2 q
theorem U4{f:Value->Sem Value}{g:Int->Int}(rule:∀(i:Int)(t:Tok)(s:Shared)(Q:Value->Shared->Prop)(E:Value->Shared->Prop),Q (.int (g i) s.toks) {s with toks:=s.toks+1}->wpAny (model X.prog X.w) X.A (f (.int i t)) Q E s):QC X f (rU λi=>.int (g i)):=by
 intro ae s σ H x v Q I rx h;obtain⟨i,rfl,q⟩:=h;obtain⟨t,rfl⟩:=rx;exact rule i t s _ _ ⟨.int (g i),H,I.tok _,⟨_,rfl⟩,q⟩
theorem zx:QC X (unaryOp .USub) (rU λi=>.int (-i)):=U4 λ_ _ _ _ _ q=>neg_int q
end
section
variable {X:Cx} {a b c:Expr} {ta tb tc:TE} {pos:Pos}
theorem k_{ae:List (Addr×Obj)}{σ:St}{H:Hp}{s:Shared}{Q:VK}{k k':Bool}(I:Inv X ae σ H s)(q:Q (.bl k) H)(e:k=k'):EP X ae σ Q (.bool k') s:=by
 subst e;exact⟨.bl k,H,I,rfl,q⟩
theorem LQ:gY X (compareOp .Lt) (FH λi j=>.bl (decide (i<j))):=C6 λ_ _ _ _ _ _ _ q=>lt_int q
theorem LR:gY X (compareOp .LtE) (FH λi j=>.bl (decide (i<=j))):=C6 λ_ _ _ _ _ _ _ q=>le_int q
theorem LS:gY X (compareOp .Gt) (FH λi j=>.bl (decide (j<i))):=C6 λ_ _ _ _ _ _ _ q=>gt_int q
theorem LU:gY X (compareOp .GtE) (FH λi j=>.bl (decide (j<=i))):=C6 λ_ _ _ _ _ _ _ q=>ge_int q
theorem xu:gY X (compareOp .Lt) (λx y H Q=>∃i j,x=.str i/\y=.str j/\Q (.bl (decide (i.cps.toList<j.cps.toList))) H):=by
 intro ae s σ H x y v u Q I rx ry h;obtain⟨i,j,rfl,rfl,q⟩:=h;obtain⟨t,rfl⟩:=rx;obtain⟨t',rfl⟩:=ry;exact lt_str (k_ I q rfl)
theorem Hn:gY X (compareOp .Is) (λx y H Q=>y=.aJ/\Q (.bl (decide (x=.aJ))) H):=by
 intro ae s σ H x y v u Q I rx ry h;obtain⟨rfl,q⟩:=h;cases ry;refine is_none_gen (k_ I q ?_)
 cases x<;>first
  | (cases rx;rfl)
  | (obtain⟨t,rfl⟩:=rx;rfl)
theorem C8:gY X (compareOp .IsNot) (λx y H Q=>y=.aJ/\Q (.bl (!decide (x=.aJ))) H):=by
 intro ae s σ H x y v u Q I rx ry h;obtain⟨rfl,q⟩:=h;cases ry;refine isnot_none_gen (k_ I q ?_)
 cases x<;>first
  | (cases rx;rfl)
  | (obtain⟨t,rfl⟩:=rx;rfl)
theorem oO{op:CmpOp}{r:R2}(ho:gY X (compareOp op) r)(ha:PE X a ta)(hb:PE X b tb)(hm:behindInMarks op b=false):PE X (.Compare a [op] [b] pos) (C5 r ta tb):=by
 intro ae s σ H Q I h;exact wpAny_Compare1 (Hg ha hb I h λv u s2 x y H2 I2 rx ry q=>ho ae s2 σ H2 x y v u Q I2 rx ry q) hm
noncomputable def iN(t:TE):TT:=λσ H Q=>t σ H λx H'=>∃k,x=.bl k/\Q k H'
theorem oP{op:CmpOp}{r:R2}(ho:gY X (compareOp op) r)(ha:PE X a ta)(hb:PE X b tb)(hm:behindInMarks op b=false):PT X (.Compare a [op] [b] pos) (iN (C5 r ta tb)):=by
 intro ae s σ H Q I h
 refine wpAny_isTrue_Compare1 (bP (ha ae s σ H _ I h) λv s1 ⟨x,H1,I1,r1,q1⟩=>bP (hb ae s1 σ H1 _ I1 q1) λu s2 ⟨y,H2,I2,r2,q2⟩ =>
  bP (ho ae s2 σ H2 x y v u _ I2 r1 r2 q2) λc s3 ⟨z,H3,I3,r3,k,e,q3⟩=>?_) hm
 subst e;cases r3;exact oi ⟨H3,I3,q3⟩
noncomputable def tF(r r':R2)(ta tb tc:TE):TE:=λσ H Q=>ta σ H λx H1=>tb σ H1 λy H2=>r x y H2 λz H3=>∃k,z=.bl k /\
 (if k=true then tc σ H3 λw' H4=>r' y w' H4 Q else Q (.bl false) H3)
theorem zy{op Ho:CmpOp}{r r':R2}(ho:gY X (compareOp op) r)(vf:gY X (compareOp Ho) r')(ha:PE X a ta)(hb:PE X b tb)(hc:PE X c tc)(hm:lastMarks [op,Ho] [b,c]=false:=by with_unfolding_all rfl):PE X (.Compare a [op,Ho] [b,c] pos) (tF r r' ta tb tc):=by
 intro ae s σ H Q I h
 refine Compare_chain (bP (ha ae s σ H _ I h) λv s1 ⟨x,H1,I1,r1,q1⟩=>chain_link (bP (hb ae s1 σ H1 _ I1 q1) λu s2 ⟨y,H2,I2,r2,q2⟩ =>
  bP (ho ae s2 σ H2 x y v u _ I2 r1 r2 q2) λd s3 ⟨z,H3,I3,r3,k,e,q3⟩=>?_)) hm
 subst e;cases r3;refine oi ?_
 cases k with
 | false=>exact ite_ff ⟨.bl false,H3,I3,rfl,q3⟩
 | true=>exact ite_tt (chain_last (bP (hc ae s3 σ H3 _ I3 q3) λw' s4 ⟨z',H4,I4,r4,q4⟩=>vf ae s4 σ H4 y z' u w' Q I4 r2 r4 q4))
theorem zz{op Ho:CmpOp}{r r':R2}(ho:gY X (compareOp op) r)(vf:gY X (compareOp Ho) r')(ha:PE X a ta)(hb:PE X b tb)(hc:PE X c tc)(hm:lastMarks [op,Ho] [b,c]=false:=by with_unfolding_all rfl):PT X (.Compare a [op,Ho] [b,c] pos) (iN (tF r r' ta tb tc)):=by
 intro ae s σ H Q I h
 refine isTrue_chain (bP (ha ae s σ H _ I h) λv s1 ⟨x,H1,I1,r1,q1⟩=>test_link (bP (hb ae s1 σ H1 _ I1 q1) λu s2 ⟨y,H2,I2,r2,q2⟩ =>
  bP (ho ae s2 σ H2 x y v u _ I2 r1 r2 q2) λd s3 ⟨z,H3,I3,r3,k,e,q3⟩=>?_)) hm
 subst e;cases r3;refine oi ?_
 cases k with
 | false =>
  obtain⟨k',e',q'⟩:=q3;cases e';exact ite_ff ⟨H3,I3,q'⟩
 | true =>
  refine ite_tt (test_last (bP (hc ae s3 σ H3 _ I3 q3) λw' s4 ⟨z',H4,I4,r4,q4⟩=>bP (vf ae s4 σ H4 y z' u w' _ I4 r2 r4 q4) λd' s5 ⟨z2,H5,I5,r5,k2,e2,q5⟩=>?_));subst e2;cases r5;exact oi ⟨H5,I5,q5⟩
def zA(K:Frag)(x:V)(H:Hp)(k:Bool):Prop :=
 match x with
 | .aJ=>k=false
 | .bl b=>k=b
 | .int i=>k=(i != 0)
 | .str y=>y.length<=sizeLine/\k=((y.length:Int) != 0)
 | .GW y=>y.size<=sizeLine/\k=((y.size:Int) != 0)
 | .ref p=>(∃xs,gj K H p xs/\k=!xs.isEmpty)\/(∃xs,gU K H p xs/\k=!xs.isEmpty)\/∃ao,H p=some (.dK ao)/\k=!ao.isEmpty
 | _=>False
theorem tH{κ:Type}{ao:List (κ×V)}{vs:List (κ×Value)}(r:KV ao vs):(!vs.isEmpty)=!ao.isEmpty:=by
 cases r<;>rfl
theorem la{xs:List V}{aC:List Value}(r:aP xs aC):(!aC.toArray.isEmpty)=!xs.isEmpty:=by
 cases r<;>simp
theorem ig:(sizeLine:Nat)<2 ^ 63:=by rw[sizeLine_eq];decide
theorem Hq:QD X (λx H Q=>∃k,zA X.K x H k/\Q k H):=by
 intro ae s σ H x v Q I rx h;obtain⟨k,e,q⟩:=h;have hl:=ig;have hs:sizeLine=16777216:=sizeLine_eq
 cases x with
 | aJ =>
  cases rx;have e':k=false:=e;subst e';exact truthy_none ⟨H,I,q⟩
 | bl b =>
  cases rx;have e':k=b:=e;subst e';exact oi ⟨H,I,q⟩
 | int i =>
  obtain⟨t,rfl⟩:=rx;have e':k=(i != 0):=e;subst e';exact PySem.P.truthy_int ⟨H,I,q⟩
 | str y =>
  obtain⟨t,rfl⟩:=rx;obtain⟨hy,e'⟩:y.length<=sizeLine/\k=((y.length:Int) != 0):=e;subst e';exact PySem.P.truthy_str ∅ ⟨H,I.tok _,q⟩
 | GW y =>
  obtain⟨t,rfl⟩:=rx;obtain⟨hy,e'⟩:y.size<=sizeLine/\k=((y.size:Int) != 0):=e;subst e';exact PySem.W.truthy_bytes ∅ ⟨H,I.tok _,q⟩
 | ref p =>
  cases rx;have e':(∃xs,gj X.K H p xs/\k=!xs.isEmpty)\/(∃xs,gU X.K H p xs/\k=!xs.isEmpty)\/∃ao,H p=some (.dK ao)/\k=!ao.isEmpty:=e;rcases e' with⟨xs,hx,e'⟩|⟨xs,hx,e'⟩|⟨ao,hx,e'⟩
  ·subst e';obtain⟨aC,r,pl,hz⟩:=I.list hx;have aY:=r.length;exact wpAny_truthy_list pl.isList (by simp only[cO];omega) ⟨H,I.tok _,by rw[la r];exact q⟩
  ·subst e';obtain⟨aC,r,pl,hz⟩:=I.tuple hx;have aY:=r.length;exact truthy_tuple pl (by simp only[cO];omega) ⟨H,I.tok _,by rw[la r];exact q⟩
  ·subst e';obtain⟨hz,hS,vs,r,m⟩:ao.length<=sizeLine/\(p==sysModules)=false/\∃vs,KV ao vs/\s.heap.DictOf (bu X.prog X.w) p vs:=I.bt p _ hx;have aY:ao.length=vs.length:=yZ r;exact wpAny_truthy_dict hS m ∅ ⟨H,I.tok _,by rw[tH r];exact q⟩
 | _=>exact(show False from e).elim
theorem zB(ha:PE X a ta)(he:∀gX,isTrue a X.env gX=(do let v <- gX;standAt a.pos;holding [v] (truthy v))):PT X a (λσ H Q=>ta σ H λx H'=>∃k,zA X.K x H' k/\Q k H'):=by
 intro ae s σ H Q I h;exact isTrue_plain (bP (ha ae s σ H _ I h) λv s1 ⟨x,H1,I1,r1,q1⟩=>Hq ae s1 σ H1 x v Q I1 r1 q1) (he _)
theorem vals1{x:V}{us:List Value}(r:aP [x] us):∃u,us=[u]/\RelV x u:=by
 cases r with
 | cons r1 r2=>cases r2;exact⟨_,rfl,r1⟩
theorem vals2{x y:V}{us:List Value}(r:aP [x,y] us):∃u w',us=[u,w']/\RelV x u/\RelV y w':=by
 cases r with
 | cons r1 r2 =>
  cases r2 with
  | cons r3 r4=>cases r4;exact⟨_,_,rfl,r1,r3⟩
theorem xv(hc:X.calm=true):dg X (.builtin "max") (λxs H Q=>∃i j,xs=[.int i,.int j]/\Q (.int (if j>i then j else i)) H):=by
 intro ae s σ H xs us Q I r h;obtain⟨i,j,rfl,q⟩:=h;obtain⟨u,w',rfl,⟨t,rfl⟩,⟨t',rfl⟩⟩:=vals2 r;refine max_two_ints (I.ok.hd hc) λh' tk k=>⟨_,H,I.kept k,?_,q⟩;by_cases hj:j>i
 ·rw[aS hj,aS hj];exact⟨_,rfl⟩
 ·rw[a8 hj,a8 hj];exact⟨_,rfl⟩
theorem xx(hc:X.calm=true):dg X (.builtin "min") (λxs H Q=>∃i j,xs=[.int i,.int j]/\Q (.int (if j<i then j else i)) H):=by
 intro ae s σ H xs us Q I r h;obtain⟨i,j,rfl,q⟩:=h;obtain⟨u,w',rfl,⟨t,rfl⟩,⟨t',rfl⟩⟩:=vals2 r;refine min_two_ints (I.ok.hd hc) λh' tk k=>⟨_,H,I.kept k,?_,q⟩;by_cases hj:j<i
 ·rw[aS hj,aS hj];exact⟨_,rfl⟩
 ·rw[a8 hj,a8 hj];exact⟨_,rfl⟩
theorem ni:dg X (.type "int") (λxs H Q=>(∃i,xs=[.int i]/\Q (.int i) H)\/∃k,xs=[.bl k]/\Q (.int (if k then 1 else 0)) H):=by
 intro ae s σ H xs us Q I r h;rcases h with⟨i,rfl,q⟩|⟨k,rfl,q⟩
 ·obtain⟨u,rfl,t,rfl⟩:=vals1 r;exact call_int_int ⟨.int i,H,I,⟨_,rfl⟩,q⟩
 ·obtain⟨u,rfl,r1⟩:=vals1 r;cases r1;exact call_int_bool ⟨.int (if k then 1 else 0),H,I.tok _,⟨_,rfl⟩,q⟩
end
structure Hr (h:Heap) (x dx C:Addr) (mA:Str->Option Value):Prop where
 obj:h.get? x=some (PySem.W.instObj C dx)
 ns:h.Ns1 dx mA
 ne:dx≠x
theorem xy{h:Heap}{dx:Addr}{mA:Str->Option Value}(n:h.Ns1 dx mA):∃od,h.get? dx=some od/\∀name,PySem.W.lookIn name od=some (mA name):=by
 obtain⟨o,es,ep,ho,hd,hk,_,hm⟩:=n;refine⟨o,ho,λname=>?_⟩;have e:=hm name;unfold nsFind findBy at e;rw[<- Array.find?_toList]at e;unfold PySem.W.lookIn;rw[hd];dsimp only;split
 ·rename_i y q
  rw[q]at e;exact oq some e
 ·rename_i q
  rw[q]at e
  have a:es.toList.any (·.refKey)=false:=by
   rw[GI];intro y hy;obtain⟨z,t,Hs⟩:=hk y (Array.mem_toList_iff.mp hy);simp[DictEntry.refKey,Hs]
  have a':¬es.toList.any (·.refKey)=true:=by rw[a];exact a6
  rw[a8 a'];exact oq some e
theorem Hr.look{h:Heap}{x dx C:Addr}{mA:Str->Option Value}(I:Hr h x dx C mA):∃od,PySem.W.InstAt h x (PySem.W.instObj C dx) C (some od)/\∀name,PySem.W.lookIn name od=some (mA name) :=
 let ⟨od,ho,hl⟩:=xy I.ns
 ⟨od,⟨I.obj,rfl,rfl,ho⟩,hl⟩
theorem gp.some_of{v:V}{o:Option Value}(r:gp (some v) o):∃u,o=some u/\RelV v u:=by
 cases o with
 | none=>exact(show False from r).elim
 | some u=>exact⟨u,rfl,r⟩
theorem gp.none_of{o:Option Value}(r:gp none o):o=none:=by
 cases o with
 | none=>rfl
 | some u=>exact(show False from r).elim
section
variable {P:Program} {w:World} {H H':Hp} {h h':Heap} {a C dx:Addr} {fs UX:List (Str×V)}
theorem C9(bt:gS P w H h)(e:H a=some (.ins C dx fs)):∃mA,Hr h a dx C mA/\(∀f,gp (fs.lookup f) (mA f))/\PySem.Within mA (fs.map (·.1))/\fs.length<=1000/\H dx=some (.own a):=by
 obtain⟨d,z,ne,ob,mA,n,r,q⟩:=(show bD P w H h a (.ins C dx fs) from bt a _ e);exact⟨mA,⟨ob,n,ne⟩,r,q,z,d⟩
end
structure QG (K:Frag) (C:Addr):Prop where
 pg:PySem.W.plainGet K C Str.empty=true
 hd:PySem.W.hasDictIn K C=true
 po:PySem.W.plainOver K C=true
 sa:PySem.W.findIn K (.ref C) "__setattr__" = some (some (.builtin "object.__setattr__"))
theorem QG.get{K:Frag}{C:Addr}(c:QG K C)(f:Str):PySem.W.plainGet K C f=true:=c.pg
section
variable {X:Cx} {ae:List (Addr×Obj)} {σ:St} {H:Hp} {s:Shared} {a C dx:Addr} {fs:List (Str×V)} {f:Str} {v:V} {A:Around} {E:Value->Shared->Prop}
theorem C_{prog:Program}{w:World}{env:Env}{e:Expr}{f:Str}{pos:Pos}{s:Shared}{Q:Value->Shared->Prop}(hb:attributeBase e f env (eval e env)=eval e env)(h:wpAny (model prog w) A (eval e env) (λo bj=>wpAny (model prog w) A (getAttr o f true) Q E bj) E s):wpAny (model prog w) A (eval (.Attribute e f pos) env) Q E s :=
 Attribute_any_ h (by rw[arm_eval_Attribute,hb])
end
section
variable {X:Cx} {o e value:Expr} {f:Str} {pos xo U5:Pos} {ta tv:TE}
noncomputable def LV:V->V->Hp->VK->Prop:=λx y H Q=>∃i j,x=.int i/\y=.int j/\Q (.int (i-j)) H
end
section
variable {X:Cx} {ae:List (Addr×Obj)} {σ:St} {H:Hp} {s:Shared} {A:Around} {E:Value->Shared->Prop} {Q:Value->Shared->Prop} {c:Value} {b:Bool}
inductive jA (K:Frag) (H:Hp):V->Value->Prop where
  | aJ:jA K H .aJ (.type "NoneType")
  | bl (x:Bool):jA K H (.bl x) (.type "bool")
  | int (i:Int):jA K H (.int i) (.type "int")
  | str (x:Str):jA K H (.str x) (.type "str")
  | Fw (x:UInt64):jA K H (.Fw x) (.type "float")
  | lst {a:Addr} {xs:List V} (e:H a=some (.lst xs)):jA K H (.ref a) (.type "list")
  | gh {a:Addr} {o:Obj} {xs:List V} (e:H a=some (.gh o (.lst xs))):jA K H (.ref a) (.type "list")
  | tup {a:Addr} {xs:List V} (e:H a=some (.tup xs)):jA K H (.ref a) (.type "tuple")
  | dK {a:Addr} {ao:List (bA×V)} (e:H a=some (.dK ao)):jA K H (.ref a) (.type "dict")
  | dT {a:Addr} {ao:List (List bA×V)} (e:H a=some (.dT ao)):jA K H (.ref a) (.type "dict")
  | ins {a C dx : Addr} {fs : List (Str × V)} (e : H a = some (.ins C dx fs)) (cl : QG K C) (ha : PySem.W.findIn K (.ref C) "__class__" = some (some (.builtin "object.__class__")))
      (hn:PySem.W.specialIn K (.builtin "object.__class__") "__get__" = some (some (.builtin "getset_descriptor.__get__"))) (Td:PySem.W.takesIn K (.builtin "object.__class__")=some true)
      (hm:PySem.W.mroIn K C (.type "object")=some true):jA K H (.ref a) (.ref C)
theorem xB{x:V}{u t:Value}(I:Inv X ae σ H s)(rx:RelV x u)(ty:jA X.K H x t)(e:PySem.W.kitOne X.K t c=some b)(h:∀tk,Q (.bool b) {s with toks:=tk}):wpAny (model X.prog X.w) A (call (.builtin "isinstance") [u,c]) Q E s:=by
 cases ty with
 | aJ=>cases (show u=Value.none from rx);exact kc PySem.W.kitx_none I.jn True.intro e (λz=>nomatch z) h
 | bl y=>cases (show u=Value.bool y from rx);exact kc PySem.W.kitx_bool I.jn True.intro e (λz=>nomatch z) h
 | int i=>obtain⟨t,q⟩:=(show ∃t,u=Value.int i t from rx);cases q;exact kc PySem.W.kitx_int I.jn True.intro e (λz=>nomatch z) h
 | str y=>obtain⟨t,q⟩:=(show ∃t,u=Value.str y t from rx);cases q;exact kc PySem.W.kitx_str I.jn True.intro e (λz=>nomatch z) h
 | Fw y=>obtain⟨t,q⟩:=(show ∃t,u=Value.float y t from rx);cases q;exact kc PySem.W.kitx_float I.jn True.intro e (λz=>nomatch z) h
 | @lst a xs ea =>
  cases (show u=Value.ref a from rx);obtain⟨_,_,n,_,h1⟩:=(show bD X.prog X.w H s.heap a (.lst xs) from I.bt a _ ea);exact kc PySem.W.kitx_list I.jn ⟨_,h1,rfl⟩ e (λz=>nomatch z) h
 | @gh a ob xs ea =>
  cases (show u=Value.ref a from rx);obtain⟨_,_,_,n,_,h1⟩:=(show bD X.prog X.w H s.heap a (.gh ob (.lst xs)) from I.bt a _ ea);exact kc PySem.W.kitx_list I.jn ⟨_,h1,rfl⟩ e (λz=>nomatch z) h
 | @tup a xs ea =>
  cases (show u=Value.ref a from rx);obtain⟨_,_,_,p⟩:=(show bD X.prog X.w H s.heap a (.tup xs) from I.bt a _ ea);obtain⟨o,h1,h2,_⟩:=p;exact kc PySem.W.kitx_tuple I.jn ⟨o,h1,h2⟩ e (λz=>nomatch z) h
 | @dK a ao ea =>
  cases (show u=Value.ref a from rx);obtain⟨_,_,vs,_,p⟩:=(show bD X.prog X.w H s.heap a (.dK ao) from I.bt a _ ea);obtain⟨o,es,ep,h1,h2,_⟩:=p;exact kc PySem.W.kitx_dict I.jn ⟨o,h1,h2.1⟩ e (λz=>nomatch z) h
 | @dT a ao ea =>
  cases (show u=Value.ref a from rx);obtain⟨_,_,xs,_,o,es,ep,h1,h2,_⟩:=(show bD X.prog X.w H s.heap a (.dT ao) from I.bt a _ ea);exact kc PySem.W.kitx_dict I.jn ⟨o,h1,h2.1⟩ e (λz=>nomatch z) h
 | @ins a C dx fs ea cl ha hn Td hm =>
  cases (show u=Value.ref a from rx);obtain⟨mA,O,_⟩:=C9 I.bt ea;obtain⟨od,J,_⟩:=O.look;exact kc (PySem.W.kitx_own (cl.get _) cl.hd ha hn Td hm) I.jn J e (λz=>nomatch z) h
end
structure eQ (k:Nat) (A:Around):Prop where
 hd:A.handled=none
 dp:A.depth+3*k+5<recursionLimit
 un:A.units+16*k+200<cLine
 gd:A.guards=some []
theorem eQ.mono{j k:Nat}{A:Around}(r:eQ k A)(h:j<=k):eQ j A:=⟨r.hd,by have:=r.dp;omega,by have:=r.un;omega,r.gd⟩
theorem eQ.deeper{k:Nat}{A:Around}(r:eQ (k+1) A)(env:Env):eQ k (A.deeper env) :=
 ⟨r.hd,by have:=r.dp;show A.depth+1+3*k+5<_;omega,by have:=r.un;show A.units+3+16*k+200<_;omega,r.gd⟩
theorem tJ{A:Around}{C:Addr}{us:List Value}{kw:List (Str×Value)}:(A.under (.builtin "type.__call__" ⟨.ref C::us,kw⟩)).depth=A.depth+1:=by
 first | rfl | simp[Around.under,Code.weight,Code.isCreation,Code.isGuard,Code.isCaller,Code.frames,Code.isFrame,guardIds]
theorem tK{A:Around}{C:Addr}{us:List Value}{kw:List (Str×Value)}:(A.under (.builtin "type.__call__" ⟨.ref C::us,kw⟩)).units=A.units+1:=by
 first | rfl | simp[Around.under,Code.cUnits,Code.frames,Code.isFrame]
theorem eQ.make{k:Nat}{A:Around}(r:eQ (k+1) A)(C:Addr)(us:List Value)(kw:List (Str×Value)):eQ k (A.under (.builtin "type.__call__" ⟨.ref C::us,kw⟩)) :=
 ⟨r.hd,by have:=r.dp;rw[tJ];omega,by have:=r.un;rw[tK];omega,by first | exact r.gd | (simpa[Around.under,Code.guards,Code.isGuard,guardIds,pushGuards]using r.gd)⟩
theorem eQ.depth{k:Nat}{A:Around}(r:eQ k A):A.depth<recursionLimit:=by have:=r.dp;omega
def Ht:TA:=λ_ H Q=>Q [] H
noncomputable def vm(ta:TE)(tr:TA):TA:=λσ H Q=>ta σ H λx H1=>tr σ H1 λxs H2=>Q (x::xs) H2
section
variable {X:Cx} {e:Expr} {es:List Expr} {te:TE} {t:TA} {pos:Pos}
theorem e7:PA X [] Ht:=λ_ _ _ _ H Q I h=>Calls.spliced_nil ⟨[],H,I,.nil,h⟩
theorem cC(ha:PE X e te)(hr:PA X es t)(hs:starEach (e::es) X.env=(false,eval e X.env)::starEach es X.env:=by rfl):PA X (e::es) (vm te t):=by
 intro pos ae s σ H Q I h;rw[hs];show wpAny _ _ (spliced ((false,eval e X.env)::backTo pos (starEach es X.env))) _ _ s;refine Calls.spliced_cons (bP (ha ae s σ H _ I h) ?_);rintro u s1 ⟨x,H1,I1,r1,q1⟩;exact bP (hr pos ae s1 σ H1 _ I1 q1) λus s2 ⟨xs,H2,I2,r2,q2⟩=>⟨x::xs,H2,I2,.cons r1 r2,q2⟩
def LW(t:TA):TE:=λσ H Q=>t σ H λxs H1=>xs.length<=sizeLine/\∀p,H1 p=none->Q (.ref p) (br H1 p (.tup xs))
def QH(t:TA):TE:=λσ H Q=>t σ H λxs H1=>xs.length<=sizeLine/\∀p,H1 p=none->Q (.ref p) (br H1 p (.lst xs))
theorem lb {x1} (h:PA X es t):PE X (.Tuple es x1 pos) (LW t):=by
 intro ae s σ H Q I hq;refine wpAny_Tuple_spliced (bP (h pos ae s σ H _ I hq) λus s1 ⟨xs,H1,I1,r,z,q⟩=>⟨by rw[<- r.length];exact z,?_⟩);have hf:H1 s1.heap.objs.size=none:=I1.bt.fresh (aL _);refine⟨.ref s1.heap.objs.size,br H1 s1.heap.objs.size (.tup xs),I1.laid (t':=s1.toks) (λb u e=>cT _ e) (aL _) ?_,rfl,q _ hf⟩;exact⟨z,us,r,⟨_,kT _ rfl,rfl,_,rfl⟩⟩
theorem Hu(h:PA X es t):PE X (.List es pos) (QH t):=by
 intro ae s σ H Q I hq;refine wpAny_List_spliced (bP (h pos ae s σ H _ I hq) λus s1 ⟨xs,H1,I1,r,z,q⟩=>⟨by rw[<- r.length];exact z,?_⟩);have hf:H1 s1.heap.objs.size=none:=I1.bt.fresh (aL _);refine⟨.ref s1.heap.objs.size,br H1 s1.heap.objs.size (.lst xs),I1.laid (t':=s1.toks) (λb u e=>cT _ e) (aL _) ?_,rfl,q _ hf⟩;exact⟨z,us,0,r,kT _ rfl⟩
end
abbrev Sp:=List V->Hp->VK->XK->Prop
abbrev yA:=List Env->Hp->Shared->XK->Value->Shared->Prop
structure tL (P:Program) (w:World) (K:Frag) (mg:Str->Option Value) (base:Heap) (A:Around) (outer:List Env) (s:Shared) (H:Hp):Prop where
 frames:A.frames=some outer
 mod:Mod K mg base
 bs:∀b o,base.get? b=some o->s.heap.get? b=some o/\H b=none
 Cg:base.objs.size<=s.heap.objs.size
 jx:s.heap.FunFrames base outer
 Fy:∀b∈xh outer,H b=none
 bt:gS P w H s.heap
 bare:AllBare s.gens
def CE(outer:List Env)(P:Program)(w:World)(H:Hp)(s:Shared)(Q:VK)(u:Value)(s':Shared):Prop :=
 ∃v H',s'.os=s.os/\AllBare s'.gens/\Un (xh outer) [] H H' s.heap s'.heap/\gS P w H' s'.heap/\RelV v u/\Q v H'
def CR(CX:yA)(outer:List Env)(P:Program)(w:World)(H:Hp)(s:Shared)(Q:VK)(E:XK)(r:Result)(s':Shared):Prop :=
 match r with
 | .ok (.ret u)=>CE outer P w H s Q u s'
 | .ok _=>False
 | .error e=>CX outer H s E e s'
structure dE (P:Program) (w:World) (K:Frag) (mg:Str->Option Value) (base:Heap) (CX:yA) (k:Nat) (f:Addr) (fd:FuncData) (ps:List Str) (sp:Sp):Prop where
 len:∀vs H Q E,sp vs H Q E->vs.length=ps.length
 run:∀(A:Around)(outer:List Env)(s:Shared)(H:Hp)(args:Args)(us:List Value)(vs:List V)(Q:VK)(E:XK),eQ k A->tL P w K mg base A outer s H->BindsTo s fd args (ps.zip us)->aP vs us->sp vs H Q E ->
  codeAny (model P w) A (.call (.ref f) args) (CR CX outer P w H s Q E) s
theorem dE.mono{P:Program}{w:World}{K:Frag}{mg:Str->Option Value}{base:Heap}{CX:yA}{j k:Nat}{f:Addr}{fd:FuncData}{ps:List Str}{sp:Sp}(F:dE P w K mg base CX j f fd ps sp)(h:j<=k):dE P w K mg base CX k f fd ps sp:=⟨F.len,λA outer s H args us vs Q E hr=>F.run A outer s H args us vs Q E (hr.mono h)⟩
theorem tL.make{P:Program}{w:World}{K:Frag}{mg:Str->Option Value}{base:Heap}{A:Around}{outer:List Env}{s:Shared}{H:Hp}(e:tL P w K mg base A outer s H)(C:Addr)(us:List Value)(kw:List (Str×Value)):tL P w K mg base (A.under (.builtin "type.__call__" ⟨.ref C::us,kw⟩)) outer s H:=⟨by first | exact e.frames | (simpa[Around.under,Code.envs,Code.isFrame,pushEnvs]using e.frames),e.mod,e.bs,e.Cg,e.jx,e.Fy,e.bt,e.bare⟩
section
variable {X:Cx} {ae:List (Addr×Obj)} {σ:St} {H:Hp} {s s':Shared}
theorem Inv.Hv(I:Inv X ae σ H s):tL X.prog X.w X.K X.mg X.base X.A X.stack s H :=
 ⟨I.ok.frames,I.ok.mod,I.bs,cJ I.ok.Cg I.sz,I.stack,I.oB,I.bt,I.bare⟩
theorem Inv.after{Q:VK}{u:Value}(I:Inv X ae σ H s)(h:CE X.stack X.prog X.w H s Q u s'):EP X ae σ Q u s':=by
 obtain⟨v,H',os,bare,un,bt,r,q⟩:=h;obtain⟨hh,g,d,t,U6⟩:=s';obtain rfl:U6=s.os:=os;exact⟨v,H',I.call (h':=hh) (g':=g) (d':=d) (t':=t) (ch:=[]) un bt bare (λb z=>absurd z (by simp)),r,q⟩
end
noncomputable def LX(sp:Sp)(FJ:List V)(E:XK)(t:TA):TE:=λσ H Q=>t σ H λvs H1=>sp (vs++FJ) H1 Q E
noncomputable def Binds(K:Frag)(fd:FuncData)(ps:List Str)(ds:List Value):Prop :=
 ∀(s:Shared)(us:List Value),K.In s.heap->(us++ds).length=ps.length->BindsTo s fd ⟨us,[]⟩ (ps.zip (us++ds))
theorem Binds.all{K:Frag}{fd:FuncData}{ps:List Str}(h:∀us:List Value,us.length=ps.length->bindArgs fd ⟨us,[]⟩=pure (ps.zip us)):Binds K fd ps []:=λs us _ hl=>by
 rw[qF]at hl⊢;exact .of_eq (h us hl)
noncomputable def oQ(CX:yA)(X:Cx)(E:XK):Prop:=∀(ae:List (Addr×Obj))(σ:St)(H:Hp)(s:Shared)(e:Value)(s':Shared),Inv X ae σ H s->CX X.stack H s E e s'->X.xe e s'
section
variable {X:Cx} {CX:yA} {k:Nat} {f C:Addr} {fd:FuncData} {ps:List Str} {sp:Sp} {FJ:List V} {ds:List Value} {E:XK} {x m:Str} {p pos oR:Pos} {e o:Expr} {es:List Expr} {ta:TE} {t:TA}
theorem Hw{ae:List (Addr×Obj)}{σ:St}{H:Hp}{s:Shared}{Q:VK}{us:List Value}{vs:List V}(F:dE X.prog X.w X.K X.mg X.base CX k f fd ps sp)(hr:eQ k X.A)(hb:Binds X.K fd ps ds)(hd:aP FJ ds)(hx:oQ CX X E)(I:Inv X ae σ H s)(r:aP vs us)(h:sp (vs++FJ) H Q E):wpAny (model X.prog X.w) X.A (call (.ref f) us) (EP X ae σ Q) X.xe s:=by
 have r2:aP (vs++FJ) (us++ds):=r.append hd;have hl:(us++ds).length=ps.length:=by rw[<- r2.length];exact F.len _ _ _ _ h
 refine wpAny_call (y4 (F.run X.A X.stack s H ⟨us,[]⟩ (us++ds) (vs++FJ) Q E hr I.Hv (hb s us I.jn hl) r2 h) λr s' hq=>?_)
 cases r with
 | error e=>exact hx ae σ H s e s' I hq
 | ok fl =>
  cases fl with
  | ret u=>exact I.after hq
  | next=>exact False.elim hq
  | brk=>exact False.elim hq
  | cont=>exact False.elim hq
theorem Dc(F:dE X.prog X.w X.K X.mg X.base CX k f fd ps sp)(hr:eQ k X.A)(hg:Gl X x)(hm:X.mg x=some (.ref f))(hk:PySem.W.keepIn X.K (.ref f)=true)(hb:Binds X.K fd ps ds)(hd:aP FJ ds)(hx:oQ CX X E)(ha:PA X (e::es) t) (zC:(x==("__debug__" : Str))=false:=by decide) (he:starEach (e::es) X.env=(false,eval e X.env)::starEach es X.env:=by rfl) (nj:(backTo pos (starEach es X.env)).any (·.1)=false:=by rfl):PE X (.Call (.Name x p) (e::es) [] pos) (LX sp FJ E t):=by
 intro ae s σ H Q I h;refine CB (iL I hg hm ?_ zC);refine PySem.W.callWith_K (h₀:=X.base) I.ok.mod.Ks hk (bP (ha pos ae s σ H _ I h) λus s1 ⟨vs,H1,I1,r,q⟩=>⟨I1.jn,?_⟩) he nj;exact Hw F hr hb hd hx I1 r q
end
structure fF (N P:List Str) (sc:Scope):Prop where
 kind:sc.kind=.function
 co:sc.isCoroutine=false
 gen:sc.isGenerator=false
 nd:N.Nodup
 pre:N.take P.length=P
 par:∀x∈P,sc.names.lookup x=some .local\/sc.names.lookup x=some .cell
 zD:∀y∈sc.names,y.2≠.free
theorem nk{kindOf:Str->Option NameKind}{x:Str}:∀{qN:List (Str×Value)}{m:Str->Option Value},(∀v,(x,v)∉qN)->bindL kindOf qN m x=m x
 | [],_,_=>rfl
 | (n,v)::r,m,h=>by
  unfold bindL;rw[nk λw hw=>h w (dC _ hw)];split
  ·have:x≠n:=by rintro rfl;exact h v eg
   simp[this]
  ·rfl
theorem nq{kindOf:Str->Option NameKind}{x:Str}:∀{qN:List (Str×Value)}{m:Str->Option Value},(∀v,(x,v)∉qN)->bindC kindOf qN m x=m x
 | [],_,_=>rfl
 | (n,v)::r,m,h=>by
  unfold bindC;rw[nq λw hw=>h w (dC _ hw)];split
  ·rfl
  ·have:x≠n:=by rintro rfl;exact h v eg
   simp[this]
theorem nr{kindOf:Str->Option NameKind}{x:Str}{v:Value}:∀{P:List Str}{vs:List Value}{i:Nat}{m:Str->Option Value},P.Nodup->P[i]?=some x->vs[i]?=some v->kindOf x=some .local->bindL kindOf (P.zip vs) m x=some v
 | [],_,_,_,_,h,_,_=>by simp at h
 | _::_,[],_,_,_,_,h,_=>by simp at h
 | p::P,w::vs,0,m,nd,h1,h2,hk=>by
  simp at h1 h2;subst h1;subst h2;show bindL kindOf ((p,w)::P.zip vs) m p=_;unfold bindL;rw[nk λv hv=>(yU.mp nd).1 (List.of_mem_zip hv).1,aS hk];simp
 | p::P,w::vs,i+1,m,nd,h1,h2,hk=>by
  show bindL kindOf ((p,w)::P.zip vs) m x=_;unfold bindL;exact nr (i:=i) (yU.mp nd).2 (by simpa using h1) (by simpa using h2) hk
theorem nu{kindOf:Str->Option NameKind}{x:Str}{v:Value}:∀{P:List Str}{vs:List Value}{i:Nat}{m:Str->Option Value},P.Nodup->P[i]?=some x->vs[i]?=some v->kindOf x≠some .local->bindC kindOf (P.zip vs) m x=some v
 | [],_,_,_,_,h,_,_=>by simp at h
 | _::_,[],_,_,_,_,h,_=>by simp at h
 | p::P,w::vs,0,m,nd,h1,h2,hk=>by
  simp at h1 h2;subst h1;subst h2;show bindC kindOf ((p,w)::P.zip vs) m p=_;unfold bindC;rw[nq λv hv=>(yU.mp nd).1 (List.of_mem_zip hv).1,a8 hk];simp
 | p::P,w::vs,i+1,m,nd,h1,h2,hk=>by
  show bindC kindOf ((p,w)::P.zip vs) m x=_;unfold bindC;exact nu (i:=i) (yU.mp nd).2 (by simpa using h1) (by simpa using h2) hk
noncomputable def start(N:List Str)(vs:List V):St:=vs.map some++List.replicate (N.length-vs.length) none
noncomputable def oS(CX:yA)(P:Program)(w:World)(K:Frag)(mg:Str->Option Value)(base:Heap)(N:List Str)(qual:Str)(scope:Scope)(f:Addr)(cd:Value)(A:Around)(outer:List Env)(s:Shared)(H:Hp)(E:XK):Cx where
 prog:=P
 w:=w
 K:=K
 mg:=mg
 base:=base
 A:=A.deeper (envOfC qual scope s.heap.objs.size f cd)
 N:=N
 df:=s
 kZ:=H
 env:=envOfC qual scope s.heap.objs.size f cd
 outer:=outer
 stack:=envOfC qual scope s.heap.objs.size f cd::outer
 ex:=[]
 calm:=true
 fn:=λ_=>true
 pn:=[]
 xe:=λe s'=>wpAny (model P w) (A.deeper (envOfC qual scope s.heap.objs.size f cd)) (leaving (envOfC qual scope s.heap.objs.size f cd) e) (λ_ LY=>CX outer H s E e LY) (λe' LY=>CX outer H s E e' LY) s'
theorem qO{sc:Scope}{n:Nat}{x:Str}(h:sc.names.lookup x=some .cell):∃c,(cellsFrom n sc.names []).lookup x=some c:=by
 have q:=PySem.W.cellsFrom_some sc.names n [] (.inl h);exact wR.mp q
theorem xC{CX:yA}{P:Program}{w:World}{K:Frag}{mg:Str->Option Value}{base:Heap}{N ps:List Str}{qual:Str}{scope:Scope}{f:Addr}{cd:Value}{A:Around}{outer:List Env}{s s1:Shared}{H:Hp}{E:XK}{us:List Value}{vs:List V}(S:fF N ps scope)(hd:A.handled=none)(e0:tL P w K mg base A outer s H)(hl:vs.length=ps.length)(r:aP vs us)(x:InCallC s s.heap.objs.size (bindL (envOfC qual scope s.heap.objs.size f cd).kindOf (ps.zip us) λ_=>none) (cellsFrom (s.heap.objs.size+1) scope.names []) (bindC (envOfC qual scope s.heap.objs.size f cd).kindOf (ps.zip us) λ_=>none) s1):Inv (oS CX P w K mg base N qual scope f cd A outer s H E) [] (start N vs) H s1:=by
 have nj:ps.length<=N.length:=by have:=oq List.length S.pre;rw[iI]at this;omega
 obtain⟨h1,tk,rfl,hk⟩:=x.done;have LZ:∀b:Addr,b∉(oS CX P w K mg base N qual scope f cd A outer s H E).ex:=λb z=>absurd (show b∈([]:List Addr) from z) (by simp)
 refine⟨⟨e0.mod,S.kind,rfl,rfl,aL _,λy z c h1 h2=>?_,λy hy=>?_,λy c _ h=>?_,λ_=>hd,Around.frames_deeper e0.frames,.inr ⟨rfl,rfl⟩,λb z=>absurd z (LZ b),e0.bs,e0.Cg,λb _ _=>LZ b,λb z=>absurd z (LZ b),e0.jx,e0.Fy⟩,
  rfl,e0.bare,Un.kept hk,⟨_,x.toInCall.ns,λi y v h1 h2 h3=>?_⟩,λy c h=>⟨_,x.cell y c h⟩,e0.bt.fresh (aL _),λy c h=>?_,λp hp=>absurd (show p∈([]:List (Addr×Obj)) from hp) (by simp),e0.bt.kept hk,?_⟩
 ·exact name_of_addr x.apart (kU h1) (kU h2)
 ·have hy:scope.names.lookup y=some .cell\/scope.names.lookup y=some .free:=hy;rcases hy with hy | hy
  ·exact qO hy
  ·exact absurd rfl (S.zD _ (kU hy))
 ·exact mO (x.above y c (kU h))
 ·have hi:i<vs.length:=by
   unfold start at h2;by_cases hi:i<vs.length
   ·exact hi
   ·rw[qw (by simpa using hi)]at h2;rw[List.getElem?_replicate]at h2;split at h2<;>cases h2
  have ha:vs[i]?=some v:=by
   unfold start at h2;rw[jq (by simpa using hi),dz]at h2
   cases e:vs[i]? with
   | none=>rw[e]at h2;cases h2
   | some a=>rw[e]at h2;cases h2;rfl
  obtain⟨u,hu,rv⟩:=r.get ha
  have hp:ps[i]?=some y:=by
   rw[<- S.pre,List.getElem?_take_of_lt ∅];exact h1
  have Te:ps.Nodup:=by rw[<- S.pre];exact S.nd.sublist (List.take_sublist _ _)
  refine⟨u,rv,?_⟩;rcases S.par y (gQ hp)with k | k
  ·exact .inl ⟨k,nr Te hp hu k⟩
  ·obtain⟨c,e⟩:=qO (n:=s.heap.objs.size+1) k;refine .inr ⟨.inl k,c,e,?_⟩;have q:=x.cell y c e;rw[nu Te hp hu (by show scope.names.lookup y≠_;rw[k];decide)]at q;exact q
 ·exact e0.bt.fresh (mO (x.above y c (kU h)))
 ·unfold start;show _=N.length;rw[fB,aE,GB];omega
theorem zE {CX : yA} {P : Program} {w : World} {K : Frag} {mg : Str -> Option Value} {base : Heap} {k : Nat} {f : Addr} {name qual : Str} {params : Arguments} {body : List Stmt} {scope : Scope} {dV kV doc pm ki ct oc : Value} {an od : Option Addr}
    {Ci:Array (Option Value)} {N ps:List Str} {sp:Sp} (lk:K.lookup f=some ⟨oc,od,.func (PySem.W.fnOf name qual params body scope dV kV doc pm an ki ct),Ci⟩) (yz:PySem.W.codeIn K ki qual=true) (S:fF N ps scope)
    (len:∀vs H Q E,sp vs H Q E->vs.length=ps.length)
    (zF:∀(A:Around)(outer:List Env)(s:Shared)(H:Hp)(vs:List V)(Q:VK)(E:XK),eQ k (A.deeper (envOfC qual scope s.heap.objs.size f ki))->sp vs H Q E ->
      ∃t,nh (oS CX P w K mg base N qual scope f ki A outer s H E) body t/\t {nx:=λ_ H'=>Q .aJ H',rt:=Q} (start N vs) H) :
    dE P w K mg base CX (k+1) f (PySem.W.fnOf name qual params body scope dV kV doc pm an ki ct) ps sp:=by
  refine⟨len,λA outer s H args us vs Q E hr e0 hb r sP=>?_⟩;have hl:=len _ _ _ _ sP;have KX:K.In s.heap:=e0.mod.Ks.keeps λb o e=>(e0.bs b o e).1;have lim:s.heap.NoLimit:=e0.mod.nolimit.keeps λb o e=>(e0.bs b o e).1
  have zG:∀y∈ps.zip us,scope.names.lookup y.1=some .local\/(scope.names.lookup y.1=some .cell/\((cellsFrom (s.heap.objs.size+1) scope.names []).lookup y.1).isSome=true):=λ⟨n,v⟩ hy=>by
    rcases S.par n (List.of_mem_zip hy).1 with q | q
    · exact .inl q
    · exact .inr ⟨q,PySem.W.cellsFrom_some _ _ _ (.inl q)⟩
  refine codeAny_call_function hr.depth (KX _ _ lk) rfl S.co S.gen rfl (PySem.W.codeRec_of KX yz) (hb _ _ _ _ ?_);refine wpAny_newFunctionEnv_cells S.kind zG λenv he s1 x=>?_;subst he;refine⟨lim.keeps x.toInCall.keep,codeAny_func ?_⟩;obtain⟨t,ht,hq⟩:=zF A outer s H vs Q E (hr.deeper _) sP;have I:Inv (oS CX P w K mg base N qual scope f ki A outer s H E) [] (start N vs) H s1:=xC S hr.hd e0 hl r x;refine ju (ht [] s1 (start N vs) H _ I hq) (λfl s' hs=>?_) λe s' hs=>hs
  have fin:∀{cI:St}{H':Hp}{v:V}{u:Value},Inv (oS CX P w K mg base N qual scope f ki A outer s H E) [] cI H' s'->RelV v u->Q v H'->CE outer P w H s Q u s' :=
    λ{cI H' v u} J rv q=>⟨v,H',J.os,J.bare,J.base,J.bt,rv,q⟩
  cases fl with
  | ret u =>
    obtain⟨v,cI,H',J,rv,q⟩:=hs;exact fin J rv q
  | next =>
    obtain⟨cI,H',J,q⟩:=hs;exact fin (v:=V.aJ) (u:=Value.none) J rfl q
  | brk =>
    obtain⟨_,_,_,q⟩:=hs;exact False.elim q
  | cont =>
    obtain⟨_,_,_,q⟩:=hs;exact False.elim q
section
variable {X:Cx} {x:Str} {p pos:Pos} {e:Expr} {es:List Expr} {t:TA} {id T:String} {r:List V->Hp->VK->Prop}
noncomputable def O4(r:List V->Hp->VK->Prop)(t:TA):TE:=λσ H Q=>t σ H λvs H1=>r vs H1 Q
theorem fj(hc:dg X (.builtin id) r)(hg:Gl X x)(hm:X.mg x=none)(hv:bootBuiltins x=some (.builtin id))(ha:PA X (e::es) t) (hn:x≠ "__name__" := by decide) (zC:(x==("__debug__" : Str))=false:=by decide) (he:starEach (e::es) X.env=(false,eval e X.env)::starEach es X.env:=by rfl) (nj:(backTo pos (starEach es X.env)).any (·.1)=false:=by rfl):PE X (.Call (.Name x p) (e::es) [] pos) (O4 r t):=by
 intro ae s σ H Q I h;refine CB (oG I hg hm hv ?_ hn zC);exact PyProof.Rows.callWith_builtin1 (bP (ha pos ae s σ H _ I h) λus s1 ⟨vs,H1,I1,r1,q1⟩=>hc ae s1 σ H1 vs us Q I1 r1 q1) he nj
theorem gH(hc:dg X (.type T) r)(hg:Gl X x)(hm:X.mg x=none)(hv:bootBuiltins x=some (.type T))(ha:PA X (e::es) t) (hn:x≠ "__name__" := by decide) (zC:(x==("__debug__" : Str))=false:=by decide) (he:starEach (e::es) X.env=(false,eval e X.env)::starEach es X.env:=by rfl) (nj:(backTo pos (starEach es X.env)).any (·.1)=false:=by rfl):PE X (.Call (.Name x p) (e::es) [] pos) (O4 r t):=by
 intro ae s σ H Q I h;refine CB (oG I hg hm hv ?_ hn zC);exact PyProof.Rows.callWith_type1 (bP (ha pos ae s σ H _ I h) λus s1 ⟨vs,H1,I1,r1,q1⟩=>hc ae s1 σ H1 vs us Q I1 r1 q1) he nj
end
section
variable {κ:Type} [DecidableEq κ]
noncomputable def jB(ao:List (κ×V))(k:κ):Option V:=(ao.find? λkv=>decide (kv.1=k)).map (·.2)
noncomputable def dW(ao:List (κ×V))(k:κ)(v:V):List (κ×V) :=
 if (ao.any λkv=>decide (kv.1=k))=true then ao.map (λkv=>if kv.1=k then (kv.1,v) else kv) else ao++[(k,v)]
theorem iO{p:κ×V}{r:List (κ×V)}{k:κ}(e:p.1=k):jB (p::r) k=some p.2:=by simp[jB,ie,e]
theorem gx{p:κ×V}{r:List (κ×V)}{k:κ}(e:¬p.1=k):jB (p::r) k=jB r k:=by simp[jB,ie,e]
theorem qP(k:κ):∀ao:List (κ×V),(ao.any λkv=>decide (kv.1=k))=(jB ao k).isSome
 | []=>rfl
 | p::r=>by
  rw[y3];by_cases e:p.1=k
  ·simp only[iO e,e5 e,Bool.true_or,Option.isSome_some]
  ·rw[gx e,eh e,Bool.false_or];exact qP k r
theorem gy(ao:List (κ×V))(k:κ)(v:V):(dW ao k v).length<=ao.length+1:=by
 unfold dW;split
 ·rw[aE];omega
 ·rw[fB,kW,yV];omega
theorem gp.fk{o:Option V}{u:Option Value}(r:gp o u):o.isSome=u.isSome:=by
 cases o with
 | none=>cases u with
  | none=>rfl
  | some _=>exact(show False from r).elim
 | some _=>cases u with
  | none=>exact(show False from r).elim
  | some _=>rfl
theorem gp.getD{o:Option V}{u:Option Value}{d:V}{d':Value}(r:gp o u)(rd:RelV d d'):RelV (o.getD d) (u.getD d'):=by
 cases o with
 | none=>cases u with
  | none=>exact rd
  | some _=>exact(show False from r).elim
 | some _=>cases u with
  | none=>exact(show False from r).elim
  | some _=>exact r
theorem KV.val{ao:List (κ×V)}{vs:List (κ×Value)}(r:KV ao vs)(k:κ):gp (jB ao k) (valueAt vs k):=by
 unfold KV at r
 induction r with
 | nil=>exact True.intro
 | @cons p q ps qs h t ih =>
  obtain⟨h1,h2⟩:=h;by_cases e:p.1=k
  ·have e':q.1=k:=h1.symm.trans e;have b:valueAt (q::qs) k=some q.2:=by simp[valueAt,ie,e']
   rw[iO e,b];exact h2
  ·have e':¬q.1=k:=λz=>e (h1.trans z);have b:valueAt (q::qs) k=valueAt qs k:=by simp[valueAt,ie,e']
   rw[gx e,b];exact ih
theorem KV.any{ao:List (κ×V)}{vs:List (κ×Value)}(r:KV ao vs)(k:κ):(ao.any λkv=>decide (kv.1=k))=vs.any λkv=>decide (kv.1=k):=by
 unfold KV at r
 induction r with
 | nil=>rfl
 | cons h t ih=>rw[y3,y3,ih,h.1]
theorem KV.Hx{ao:List (κ×V)}{vs:List (κ×Value)}(r:KV ao vs)(k:κ){y:V}{u:Value}(ry:RelV y u):KV (ao.map λkv=>if kv.1=k then (kv.1,y) else kv) (vs.map λkv=>if kv.1=k then (kv.1,u) else kv):=by
 unfold KV at r⊢
 induction r with
 | nil=>exact .nil
 | @cons p q ps qs h t ih =>
  rw[fC,fC];refine .cons ?_ ih;obtain⟨h1,h2⟩:=h;by_cases e:p.1=k
  ·rw[aS e,aS (h1.symm.trans e)];exact⟨h1,ry⟩
  ·rw[a8 e,a8 (λz=>e (h1.trans z))];exact⟨h1,h2⟩
theorem KV.put{ao:List (κ×V)}{vs:List (κ×Value)}(r:KV ao vs)(k:κ){y:V}{u:Value}(ry:RelV y u):KV (dW ao k y) (stored vs k u):=by
 unfold dW stored;rw[r.any k];by_cases e:(vs.any λkv=>decide (kv.1=k))=true
 ·rw[aS e,aS e];exact r.Hx k ry
 ·rw[a8 e,a8 e];exact Paired.snoc r ⟨rfl,ry⟩
theorem KV.length{ao:List (κ×V)}{vs:List (κ×Value)}(r:KV ao vs):ao.length=vs.length:=yZ r
end
theorem nz{P:Program}{w:World}{k:bA}{u:Value}(r:RelV (kV k) u):(bu P w).is k u=true:=by
 cases k with
 | inl i=>obtain⟨t,e⟩:=(show ∃t,u=Value.int i t from r);subst e;exact qI P w i t
 | inr x=>obtain⟨t,e⟩:=(show ∃t,u=Value.str x t from r);subst e;exact qJ P w x t
theorem nA{P:Program}{w:World}:∀{ks:List bA}{us:List Value},aP (ks.map kV) us->ItemsAre (bu P w) ks us
 | [],_,r=>by rw[mP]at r;cases r;exact .nil
 | k::ks,_,r=>by
  rw[fC]at r
  cases r with
  | cons h t=>exact .cons (nz h) (nA t)
abbrev KT(H:Hp):List (List bA×V)->List (List bA×Addr×Value)->Prop:=Paired λp q=>p.1=q.1/\H q.2.1=some (.tup (p.1.map kV))/\RelV p.2 q.2.2
theorem KT.val{H:Hp}{ao:List (List bA×V)}{xs:List (List bA×Addr×Value)}(r:KT H ao xs)(k:List bA):gp (jB ao k) ((atKey xs k).map (·.2)):=by
 induction r with
 | nil=>exact True.intro
 | @cons p q ps qs h t ih =>
  obtain⟨h1,_,h2⟩:=h;by_cases e:p.1=k
  ·have e':q.1=k:=h1.symm.trans e;have b:atKey (q::qs) k=some q.2:=by simp[atKey,ie,e']
   rw[iO e,b];exact h2
  ·have e':¬q.1=k:=λz=>e (h1.trans z);have b:atKey (q::qs) k=atKey qs k:=by simp[atKey,ie,e']
   rw[gx e,b];exact ih
theorem KT.Hx{H:Hp}{ao:List (List bA×V)}{xs:List (List bA×Addr×Value)}(r:KT H ao xs)(k:List bA){y:V}{u:Value}(ry:RelV y u):KT H (ao.map λkv=>if kv.1=k then (kv.1,y) else kv) (xs.map (putAt k u)):=by
 induction r with
 | nil=>exact .nil
 | @cons p q ps qs h t ih =>
  rw[fC,fC];refine .cons ?_ ih;obtain⟨h1,h2,h3⟩:=h;unfold putAt;by_cases e:p.1=k
  ·rw[aS e,aS (h1.symm.trans e)];exact⟨h1,h2,ry⟩
  ·rw[a8 e,a8 (λz=>e (h1.trans z))];exact⟨h1,h2,h3⟩
theorem KT.put{H:Hp}{ao:List (List bA×V)}{xs:List (List bA×Addr×Value)}(r:KT H ao xs)(k:List bA){b:Addr}{y:V}{u:Value}(hb:H b=some (.tup (k.map kV)))(ry:RelV y u):KT H (dW ao k y) (storedH xs k b u):=by
 have e:(ao.any λkv=>decide (kv.1=k))=(atKey xs k).isSome:=by
  rw[qP,(r.val k).fk,GJ]
 unfold dW storedH;rw[e];by_cases q:(atKey xs k).isSome=true
 ·rw[aS q,aS q];exact r.Hx k ry
 ·rw[a8 q,a8 q];exact Paired.snoc r ⟨rfl,hb,ry⟩
theorem KT.keeps{H H':Hp}{ao:List (List bA×V)}{xs:List (List bA×Addr×Value)}(r:KT H ao xs)(ht:∀b ys,H b=some (.tup ys)->H' b=some (.tup ys)):KT H' ao xs :=
 Paired.GY r λ_ _ z=>⟨z.1,ht _ _ z.2.1,z.2.2⟩
section
variable {P:Program} {w:World} {H:Hp} {h:Heap} {a:Addr}
theorem FK{u:HO}(ok:gS P w H h)(e:Rd H a u):bD P w H h a u:=e.ok ok
theorem qQ{ao:List (bA×V)}(ok:gS P w H h)(e:Rd H a (.dK ao)):ao.length<=sizeLine/\(a==sysModules)=false/\∃vs,KV ao vs/\h.DictOf (bu P w) a vs :=
 show bD P w H h a (.dK ao) from FK ok e
theorem qR{ao:List (bA×V)}(ok:gS P w H h)(e:H a=some (.dK ao)):ao.length<=sizeLine/\(a==sysModules)=false/\∃vs,KV ao vs/\h.DictOf (bu P w) a vs:=qQ ok (.inl e)
theorem lg{ks:List bA}(ok:gS P w H h)(e:H a=some (.tup (ks.map kV))):(tupleKind (bu P w)).is h ks a:=by
 obtain⟨_,aC,r,o,h1,h2,n,h3⟩:=(show bD P w H h a (.tup (ks.map kV)) from ok a _ e);exact⟨o,aC.toArray,n,h1,h2,h3,by simpa using nA r⟩
theorem qS{ao:List (List bA×V)}(ok:gS P w H h)(e:Rd H a (.dT ao)):ao.length<=sizeLine/\(a==sysModules)=false/\∃xs,KT H ao xs/\h.DictOfH (tupleKind (bu P w)) a xs:=by
 obtain⟨z,y,xs,r,o,es,ep,h1,h2,h3,h4,h5⟩:=(show bD P w H h a (.dT ao) from FK ok e);refine⟨z,y,xs,r,o,es,ep,h1,h2,h3,h4,λx hx=>?_,h5⟩
 have all:∀{l:List (List bA×V)}{m:List (List bA×Addr×Value)},KT H l m->∀x∈m,(tupleKind (bu P w)).is h x.1 x.2.1:=by
  intro l m q
  induction q with
  | nil=>intro x hx;exact nomatch hx
  | @cons p q ps qs hq t ih =>
   intro x hx;rcases bS.mp hx with e | hx
   ·subst e;exact lg ok (by rw[<- hq.1];exact hq.2.1)
   ·exact ih x hx
 exact all r x hx
theorem L0{ao:List (List bA×V)}(ok:gS P w H h)(e:H a=some (.dT ao)):ao.length<=sizeLine/\(a==sysModules)=false/\∃xs,KT H ao xs/\h.DictOfH (tupleKind (bu P w)) a xs:=qS ok (.inl e)
end
def kj(H:Hp)(a:Addr)(y:V)(r:Option V):Prop :=
 (∃ao k,Rd H a (.dK ao)/\y=kV k/\r=jB ao k)\/∃ao k b,Rd H a (.dT ao)/\y=.ref b/\H b=some (.tup (k.map kV))/\r=jB ao k
def Dd(H:Hp)(a:Addr)(y v:V)(H':Hp):Prop :=
 (∃ao k,H a=some (.dK ao)/\y=kV k/\ao.length<sizeLine/\H'=br H a (.dK (dW ao k v))) \/
 ∃ao k b,H a=some (.dT ao)/\y=.ref b/\H b=some (.tup (k.map kV))/\ao.length<sizeLine/\H'=br H a (.dT (dW ao k v))
theorem kj.k{H:Hp}{a:Addr}{ao:List (bA×V)}{k:bA}(e:H a=some (.dK ao)):kj H a (kV k) (jB ao k):=.inl ⟨ao,k,.inl e,rfl,rfl⟩
theorem Dd.k{H:Hp}{a:Addr}{ao:List (bA×V)}{k:bA}{v:V}(e:H a=some (.dK ao))(hl:ao.length<sizeLine):Dd H a (kV k) v (br H a (.dK (dW ao k v))):=.inl ⟨ao,k,e,rfl,hl,rfl⟩
section
variable {X:Cx} {ae:List (Addr×Obj)} {σ:St} {H:Hp} {s:Shared} {a:Addr} {y v:V} {u r:Value} {o:Option V} {A:Around} {E:Value->Shared->Prop}
theorem Inv.big(I:Inv X ae σ H s):sysModules<s.heap.objs.size:=by
 have h:mainGlobals<s.heap.objs.size:=(I.mod.glob.keeps I.bk).lt;exact y6 (by decide) h
theorem nB{Q:Value->Shared->Prop}(hu:A.units+1<cLine)(I:Inv X ae σ H s)(g:kj H a y (some v))(ry:RelV y u)(h:∀w' s',Inv X ae σ H s'->RelV v w'->Q w' s'):wpAny (model X.prog X.w) A (getItem (.ref a) u) Q E s:=by
 rcases g with⟨ao,k,e,ey,l⟩|⟨ao,k,b,e,ey,eb,l⟩
 ·subst ey;obtain⟨z,hd,vs,lh,dd⟩:=qQ I.bt e;obtain⟨w',hw,xD⟩:=gp.some_of (v:=v) (o:=valueAt vs k) (by rw[l];exact lh.val k);exact wpAny_getItem_of (nz ry) dd.mapOf hw (h w' _ (I.tok _) xD)
 ·subst ey;cases (show u=Value.ref b from ry);obtain⟨z,hd,xs,lh,dd⟩:=qS I.bt e;obtain⟨w',hw,xD⟩:=gp.some_of (v:=v) (o:=(atKey xs k).map (·.2)) (by rw[l];exact lh.val k);obtain⟨p,hp,U7⟩:=Option.map_eq_some_iff.mp hw;refine wpAny_getItem_heap (CD hu) (lg I.bt eb) dd hp ?_;rw[U7];exact h w' _ (I.tok _) xD
theorem QI{Q:Value->Shared->Prop}(hu:A.units+1<cLine)(I:Inv X ae σ H s)(g:kj H a y o)(ry:RelV y u)(h:∀s',Inv X ae σ H s'->Q (.bool o.isSome) s'):wpAny (model X.prog X.w) A (compareOp .In u (.ref a)) Q E s:=by
 rcases g with⟨ao,k,e,ey,l⟩|⟨ao,k,b,e,ey,eb,l⟩
 ·subst ey;obtain⟨z,hd,vs,lh,dd⟩:=qQ I.bt e;refine wpAny_in_of (nz ry) hd dd.mapOf ?_;rw[<- (lh.val k).fk,<- l];exact h _ (I.tok _)
 ·subst ey;cases (show u=Value.ref b from ry);obtain⟨z,hd,xs,lh,dd⟩:=qS I.bt e;refine wpAny_in_heap (CD hu) (lg I.bt eb) hd dd ?_;have q:=(lh.val k).fk;rw[GJ]at q;rw[<- q,<- l];exact h _ (I.tok _)
theorem De{Q:Value->Shared->Prop}(hu:A.units+1<cLine)(I:Inv X ae σ H s)(g:kj H a y o)(ry:RelV y u)(h:∀s',Inv X ae σ H s'->Q (.bool (!o.isSome)) s'):wpAny (model X.prog X.w) A (compareOp .NotIn u (.ref a)) Q E s:=by
 rcases g with⟨ao,k,e,ey,l⟩|⟨ao,k,b,e,ey,eb,l⟩
 ·subst ey;obtain⟨z,hd,vs,lh,dd⟩:=qQ I.bt e;refine wpAny_notIn_of (nz ry) hd dd.mapOf ?_;rw[<- (lh.val k).fk,<- l];exact h _ (I.tok _)
 ·subst ey;cases (show u=Value.ref b from ry);obtain⟨z,hd,xs,lh,dd⟩:=qS I.bt e;refine wpAny_notIn_heap (CD hu) (lg I.bt eb) hd dd ?_;have q:=(lh.val k).fk;rw[GJ]at q;rw[<- q,<- l];exact h _ (I.tok _)
theorem oU{h':Heap}{t':Nat}{ob:HO}(I:Inv X ae σ H s)(mu:Lr (H a))(hs:Heap.SameBut a s.heap h')(he:∃q,h'.get? a=some q)(new:bD X.prog X.w (br H a ob) h' a ob):Inv X ae σ (br H a ob) {s with heap:=h',toks:=t'} :=
 I.write (x:=a) (e:=a) mu (.inl rfl) (λb q hb z=>(hs.2 b hb).trans z) he new
theorem zH{P:Program}{w:World}{H':Hp}{h':Heap}{ao:List (bA×V)}{vs:List (bA×Value)}(z:ao.length<=sizeLine)(hd:(a==sysModules)=false)(lh:KV ao vs)(dd:h'.DictOf (bu P w) a vs):bD P w H' h' a (.dK ao):=⟨z,hd,vs,lh,dd⟩
theorem xE{H':Hp}{Q:Unit->Shared->Prop}(hu:A.units+1<cLine)(I:Inv X ae σ H s)(g:Dd H a y v H')(ry:RelV y u)(rv:RelV v r)(h:∀s',Inv X ae σ H' s'->Q () s'):wpAny (model X.prog X.w) A (setItem (.ref a) u r) Q E s:=by
 rcases g with⟨ao,k,e,ey,l,eH⟩|⟨ao,k,b,e,ey,eb,l,eH⟩
 ·subst ey eH;obtain⟨z,hd,vs,lh,dd⟩:=qR I.bt e;have hz:vs.length<=sizeLine:=by rw[<- lh.length];exact z
  have hl:(dW ao k v).length<=sizeLine:=by have:=gy ao k v;omega
  refine wpAny_setItem_pairs (hsz:=hz) (nz ry) dd λh' Hy hs=>h _ ?_;have he:∃q,h'.get? a=some q:=let ⟨q,_,_,hq,_⟩:=Hy;⟨q,hq⟩
  exact oU I (by rw[e];exact True.intro) hs he (zH hl hd (lh.put k rv) Hy)
 ·subst ey eH;cases (show u=Value.ref b from ry);obtain⟨z,hd,xs,lh,dd⟩:=L0 I.bt e;have hz:xs.length<=sizeLine:=by rw[<- yZ lh];exact z
  have hl:(dW ao k v).length<=sizeLine:=by have:=gy ao k v;omega
  refine wpAny_setItem_heap (hsz:=hz) (CD hu) (lg I.bt eb) dd λh' Hy hs=>h _ ?_;obtain⟨q,es,ep,hq,h2,h3,h4,_,h5⟩:=Hy;refine oU I (by rw[e];exact True.intro) hs ⟨q,hq⟩ ⟨hl,hd,_,(lh.put k eb rv).keeps λc ys ec=>?_,q,es,ep,hq,h2,h3,h4,h5⟩;rw[aj (Lo ec e (λz=>nomatch z))];exact ec
end
theorem jV{X:Cx}{ae:List (Addr×Obj)}{σ:St}{H:Hp}{s:Shared}{a:Addr}{y:V}{o:Option V}(I:Inv X ae σ H s)(g:kj H a y o):s.TypeIs (.ref a) "dict" := by
 rcases g with⟨ao,k,e,_,_⟩|⟨ao,k,b,e,_,_,_⟩
 ·obtain⟨_,_,vs,_,dd⟩:=qQ I.bt e;exact dd.typeIs
 ·obtain⟨_,_,xs,_,dd⟩:=qS I.bt e;exact dd.typeIs
theorem qT{P:Program}{w:World}{H:Hp}(h:Heap)(hb:sysModules<h.objs.size):bD P w H (h.push {cls:=.type "dict",data:=.dict #[]}) h.objs.size (.dK []) :=
 ⟨xf _,mL.mpr (cK (ej hb)),[],.nil,Heap.DictOf.new h⟩
def Hz:TE:=λ_ H Q=>∀p,H p=none->Q (.ref p) (br H p (.dK []))
section
variable {X:Cx} {pos:Pos}
theorem zI:PE X (.Dict [] [] pos) Hz:=λae s σ H Q I h =>
 wpAny_Dict_empty ⟨.ref s.heap.objs.size,_,I.laid (a:=s.heap.objs.size) (o:=.dK []) (t':=s.toks) (λ_ _ q=>cT _ q) (aL _) (qT s.heap I.big),rfl,h _ (I.bt.fresh (aL _))⟩
end
noncomputable def fG:List (TE×TE)->St->Hp->(List (V×V)->Hp->Prop)->Prop
 | [],_,H,Q=>Q [] H
 | (tk,tv)::r,σ,H,Q=>tk σ H λx H1=>tv σ H1 λy H2=>fG r σ H2 λps H3=>Q ((x,y)::ps) H3
abbrev VV:List (V×V)->List (Value×Value)->Prop:=Paired λp q=>RelV p.1 q.1/\RelV p.2 q.2
def Kw(X:Cx)(pos:Pos)(keys:List (Option Expr))(lj:List Expr)(lp:List (TE×TE)):Prop :=
 ∀(ae:List (Addr×Obj))(s:Shared)(σ:St)(H:Hp)(Q:List (V×V)->Hp->Prop),Inv X ae σ H s->fG lp σ H Q ->
  wpAny (model X.prog X.w) X.A (evalPairs (pairTrees keys lj X.env pos)) (λvs s'=>∃ps H',Inv X ae σ H' s'/\VV ps vs/\Q ps H') X.xe s
theorem Df{X:Cx}{pos:Pos}:Kw X pos [] [] []:=λae s σ H Q I h=>pairTrees_nil_walk ⟨[],H,I,.nil,h⟩
theorem zJ{X:Cx}{pos:Pos}{k v:Expr}{ks:List (Option Expr)}{vs:List Expr}{tk tv:TE}{lp:List (TE×TE)}(hk:PE X k tk)(hv:PE X v tv)(hr:Kw X pos ks vs lp):Kw X pos (some k::ks) (v::vs) ((tk,tv)::lp):=λae s σ H Q I h =>
 pairTrees_cons_walk (bP (hk ae s σ H _ I h) λu s1 ⟨x,H1,I1,rx,q1⟩=>bP (hv ae s1 σ H1 _ I1 q1) λw2 s2 ⟨y,H2,I2,ry,q2⟩ =>
  bP (hr ae s2 σ H2 _ I2 q2) λws s3 ⟨ps,H3,I3,lh,q3⟩=>⟨(x,y)::ps,H3,I3,.cons ⟨rx,ry⟩ lh,q3⟩)
def e8(ao more:List (bA×V)):List (bA×V):=more.foldl (λacc kv=>dW acc kv.1 kv.2) ao
theorem KV.merge:∀{more:List (bA×V)}{rs:List (bA×Value)}{ao:List (bA×V)}{vs:List (bA×Value)},KV more rs->KV ao vs->KV (e8 ao more) (merged vs rs):=by
 intro more rs ao vs r;unfold KV at r
 induction r generalizing ao vs with
 | nil=>intro q;exact q
 | @cons p q ps qs h t ih =>
  intro r0
  have e:KV (dW ao p.1 p.2) (stored vs q.1 q.2):=by
   have:=r0.put p.1 h.2;rw[<- h.1];exact this
  exact ih e
theorem gZ:∀(more ao:List (bA×V)),(e8 ao more).length<=ao.length+more.length
 | [],ao=>by show ao.length<=ao.length+0;omega
 | p::r,ao=>by
  have h1:=gZ r (dW ao p.1 p.2);have h2:=gy ao p.1 p.2;show(e8 (dW ao p.1 p.2) r).length<=_;rw[kW];omega
theorem lq{P:Program}{w:World}:∀{ao:List (bA×V)}{ws:List (Value×Value)},VV (ao.map λkv=>(kV kv.1,kv.2)) ws->∃rs,Carries (bu P w) ws rs/\KV ao rs
 | [],_,r=>by rw[mP]at r;cases r;exact⟨[],True.intro,.nil⟩
 | p::ao,_,r=>by
  rw[fC]at r
  cases r with
  | @cons a b as bs h t =>
   obtain⟨rs,c,q⟩:=lq (P:=P) (w:=w) t;obtain⟨b1,b2⟩:=b;exact⟨(p.1,b2)::rs,⟨nz h.1,rfl,c⟩,.cons ⟨rfl,h.2⟩ q⟩
def L1(lp:List (TE×TE)):TE:=λσ H Q=>∀p,H p=none->fG lp σ (br H p (.dK [])) λps H2=>H2 p=some (.dK [])/\∃ao:List (bA×V),ps=ao.map (λkv=>(kV kv.1,kv.2))/\ao.length<=15/\Q (.ref p) (br H2 p (.dK (e8 [] ao)))
theorem Dg{X:Cx}{pos:Pos}{keys:List (Option Expr)}{lj:List Expr}{lp:List (TE×TE)}(h:Kw X pos keys lj lp)(HA:keys.all (·.isSome)=true)(hl:keys.length=lj.length)(h0:keys≠[])(vp:keys.length<=15):PE X (.Dict keys lj pos) (L1 lp):=by
 intro ae s σ H Q I q;have hn:=I.bt.fresh (aL s.heap.objs.size);have I1:=I.laid (a:=s.heap.objs.size) (o:=.dK []) (h':=s.heap.push {cls:=.type "dict",data:=.dict #[]}) (t':=s.toks) (λ_ _ q=>cT _ q) (aL _) (qT s.heap I.big);refine wpAny_Dict_walk (knd:=bu X.prog X.w) HA hl h0 vp (bP (h ae _ σ _ _ I1 (q _ hn)) ?_);rintro ws s2 ⟨ps,H2,I2,lh,e,ao,rfl,lk,q2⟩;obtain⟨rs,c,rk⟩:=lq (P:=X.prog) (w:=X.w) lh;obtain⟨z,hd,YY,r0,dd⟩:=qR I2.bt e;cases r0;refine⟨rs,c,dd,λh' Hy hs=>⟨.ref s.heap.objs.size,_,?_,rfl,q2⟩⟩
 have hz:(e8 [] ao).length<=sizeLine:=by
  have h1:=gZ ao [];rw[yV]at h1;rw[sizeLine_eq];omega
 have he:∃q,h'.get? s.heap.objs.size=some q:=let ⟨q,_,_,hq,_⟩:=Hy;⟨q,hq⟩
 exact oU I2 (by rw[e];exact True.intro) hs he (zH hz hd (rk.merge .nil) Hy)
structure M1 (X:Cx) (o:Expr) (m:Str) (oR:Pos) (e:Expr) (cF:Pos):Prop where
 base:attributeBase o m X.env (eval o X.env)=eval o X.env
 U8:((backTo cF (starEach [e] X.env)).all (λx=>!x.1)&&(backToKw cF (keywordEach [] X.env)).all (λx=>x.1.isSome)
  && decide (([e]:List Expr).length+([]:List Keyword).length+(if ([]:List Keyword).isEmpty then 0 else 1)<30))=true
 line:(oR.endLine==cF.line)=true
 trees:backTo cF (starEach [e] X.env)=[(false,eval e X.env)]
structure M2 (X:Cx) (o:Expr) (m:Str) (oR:Pos) (e f:Expr) (cF:Pos):Prop where
 base:attributeBase o m X.env (eval o X.env)=eval o X.env
 U8:((backTo cF (starEach [e,f] X.env)).all (λx=>!x.1)&&(backToKw cF (keywordEach [] X.env)).all (λx=>x.1.isSome)
  && decide (([e,f]:List Expr).length+([]:List Keyword).length+(if ([]:List Keyword).isEmpty then 0 else 1)<30))=true
 line:(oR.endLine==cF.line)=true
 trees:backTo cF (starEach [e,f] X.env)=[(false,eval e X.env),(false,eval f X.env)]
end L2
namespace HT
open PySem PyProof.Rows
section
open PySem.SeqAt
open PySem.AutoSeq1 (wpAny_loadPart')
open PySem.MeetsSeq PySem.MeetsSeq2 PySem.MeetsSeq3
end
section
variable {prog:Program} {w:World} {A:Around} {E:Value->Shared->Prop} {s:Shared}
theorem Dh{t b:Addr}{vs ws:List Value}{Q:Value->Shared->Prop}(ht:IsTup s.heap t vs.toArray)(hb:IsTup s.heap b ws.toArray)(hv:vs≠[])(h1:ws=[]->Q (.ref t) s) (h2:ws≠[]->Q (.ref s.heap.objs.size) {s with heap:=s.heap.push {cls:=.type "tuple",data:=.seq (vs++ws).toArray}}) (hsz:vs.length+ws.length<=sizeLine):wpAny (model prog w) A (binaryOp .Add (.ref t) (.ref b)) Q E s:=by
 obtain⟨⟨cls,dd,data,sl⟩,ho,hc,n,hd⟩:=id ht;obtain⟨⟨QJ,O5,data2,O6⟩,zK,yB,n2,hd2⟩:=id hb;simp only at hc hd yB hd2;subst hc hd yB hd2;have e:vs.toArray++ws.toArray=(vs++ws).toArray:=by simp
 by_cases hw:ws=[]
 ·exact concat_meets ⟨_,ho,rfl⟩ ⟨_,zK,rfl⟩ noFill_tuple_add seq_tuple_add Gz Gx (Gv _ _)
   (tuple_addW1 t b vs.toArray ws.toArray n n2 dd O5 sl O6 (by simpa using hv) (by simp[hw])) ⟨ho,zK,h1 hw⟩
 ·refine concat_meets ⟨_,ho,rfl⟩ ⟨_,zK,rfl⟩ noFill_tuple_add seq_tuple_add Gz Gx (Gv _ _)
   (tuple_addW2 t b vs.toArray ws.toArray n n2 dd O5 sl O6 (by simpa using hv) (by simpa using hw) (by rw[cO,cO];exact hsz)) ⟨ho,zK,?_⟩
  rw[e];exact h2 hw
noncomputable def dw(n d:Nat):Option Int->Nat
 | none=>d
 | some v=>if v<0 then (v+(n:Int)).toNat else min v.toNat n
theorem HB(n d:Nat)(hd:d<=n)(o:Option Int):dw n d o<=n:=by
 cases o with
 | none=>exact hd
 | some v =>
  show(if v<0 then (v+(n:Int)).toNat else min v.toNat n)<=n;by_cases hv:v<0
  ·rw[aS hv];omega
  ·rw[a8 hv];exact Nat.min_le_right _ _
theorem vq(v:Int)(n d:Nat):(if v<0 then max (v+(n:Int)) 0 else min v (n:Int))=((dw n d (some v):Nat):Int):=by
 show(if v<0 then max (v+(n:Int)) 0 else min v (n:Int))=(((if v<0 then (v+(n:Int)).toNat else min v.toNat n):Nat):Int);by_cases hv:v<0
 ·simp only[aS hv];omega
 ·simp only[a8 hv];omega
theorem tM(lo hi:Option Int)(n:Nat):Builtin.Slice.sliceAdjust lo hi 1 (n:Int)=(((dw n 0 lo:Nat):Int),((dw n n hi:Nat):Int)):=by
 have h1:¬((1:Int)<0):=∅;unfold Builtin.Slice.sliceAdjust;simp only[h1,ou];refine Prod.ext ?_ ?_
 ·cases lo with
  | none=>rfl
  | some v=>exact vq v n 0
 ·cases hi with
  | none=>rfl
  | some v=>exact vq v n n
theorem tN(i j:Nat):Builtin.Slice.slicePlaces (i:Int) (j:Int) 1=j-i:=by
 unfold Builtin.Slice.slicePlaces;have h1:(1:Int)>0:=∅;simp only[h1,dD,Int.ediv_one];split<;>omega
theorem lr{v:Value}{o:Option Int}{Q:Option Int->Shared->Prop}(p:IsPart v o)(h:Q o s):wpAny (model prog w) A (Builtin.Slice.slicePartIndex v) Q E s:=by
 cases p with
 | none=>exact slicePart_none h
 | int i t=>exact slicePart_int h
theorem jC{sl:Addr}{vl vu:Value}{lo hi:Option Int}{n:Nat}{Q:Int×Int×Nat->Shared->Prop}(hs:s.heap.IsSliceOf sl vl vu .none)(pl:IsPart vl lo)(pu:IsPart vu hi)(h:Q (((dw n 0 lo:Nat):Int),1,dw n n hi-dw n 0 lo) s):wpAny (model prog w) A (Builtin.Slice.sliceApplied (.ref sl) (pure (n:Int))) Q E s:=by
 obtain⟨os,zL,L3,Di⟩:=id hs;unfold Builtin.Slice.sliceApplied Builtin.Slice.sliceFields;refine au (au (kY zL Di (x:=vl) rfl (au (kY zL Di (x:=vu) rfl (au (kY zL Di (x:=.none) rfl (aO ?_)))))));refine au (slicePart_none ?_);show wpAny _ _ (if ((1:Int)==0)=true then _ else _) _ _ s;rw[a8 (by decide)];refine au (lr pl (au (lr pu (au (aO ?_)))));show wpAny _ _ (match Builtin.Slice.sliceAdjust lo hi 1 (n:Int)with | (lo,hi)=>pure (lo,(1:Int),Builtin.Slice.slicePlaces lo hi 1)) _ _ s;rw[tM lo hi n];show wpAny _ _ (pure (((dw n 0 lo:Nat):Int),(1:Int),Builtin.Slice.slicePlaces ((dw n 0 lo:Nat):Int) ((dw n n hi:Nat):Int) 1)) _ _ s;rw[tN];exact aO h
theorem zM(xs:Array Value)(i k:Nat):((List.range k).filterMap λ(m:Nat)=>xs[((i:Int)+(m:Int)*1).toNat]?).toArray=((xs.toList.drop i).take k).toArray:=by
 have e:(λ(m:Nat)=>xs[((i:Int)+(m:Int)*1).toNat]?)=λm=>xs[i+m]?:=by
  funext m;have:((i:Int)+(m:Int)*1).toNat=i+m:=∅;rw[this]
 rw[e];have:=pick_run xs i k;rw[List.filterMap_map]at this;have e2:((λx=>xs[x]?)∘λx=>i+x)=λm=>xs[i+m]?:=rfl;rw[e2]at this;rw[this]
theorem iP{t sl:Addr}{items:Array Value}{vl vu:Value}{lo hi:Option Int}{Q:Value->Shared->Prop}(ht:IsTup s.heap t items)(hs:s.heap.IsSliceOf sl vl vu .none)(pl:IsPart vl lo)(pu:IsPart vu hi)(hw:¬(dw items.size 0 lo=0/\dw items.size items.size hi=items.size)) (h:Q (.ref s.heap.objs.size) {s with heap:=s.heap.push {cls:=.type "tuple",data:=.seq ((items.toList.drop (dw items.size 0 lo)).take (dw items.size items.size hi-dw items.size 0 lo)).toArray}}) (hsz:items.size<=sizeLine):wpAny (model prog w) A (getItem (.ref t) (.ref sl)) Q E s:=by
 have vt:sizeOk (.seq ((items.toList.drop (dw items.size 0 lo)).take (dw items.size items.size hi-dw items.size 0 lo)).toArray):=by
  show((items.toList.drop (dw items.size 0 lo)).take (dw items.size items.size hi-dw items.size 0 lo)).toArray.size<=sizeLine;rw[cO,iI,CL,sZ];omega
 have hj:dw items.size items.size hi<=items.size:=HB _ _ (aL _) hi;obtain⟨os,zL,L3,Di⟩:=id hs;have QK:s.TypeIs (.ref sl) "slice" := ⟨os,zL,L3⟩;unfold getItem
 try with_reducible refine kX ?_
 first | refine au (aO ?_) | skip
 refine au (wpAny_sequenceKey ht.typeIs (by decide) ?_)
 refine au (wpAny_callSpecial?_slot (name:=Str.ofString "__getitem__") ht.typeIs wN
  (wpAny_call_entry wN ht.typeIs entry_tuple_getitem ?_ (args_tuple_getitem _ _)))
 show wpAny _ _ (Builtin.Tuple.tupleItemsOf (.ref t) >>= _) _ _ s;refine au (tupleItemsOf_ ht ?_);refine au (y8 QK ?_);rw[aS (by decide)];refine au (jC hs pl pu ?_)
 have Kx:¬((((dw items.size 0 lo:Nat):Int)==0&&(1:Int)==1&&(dw items.size items.size hi-dw items.size 0 lo)==items.size)=true):=by
  intro q;rw[aK,aK]at q;have q1:((dw items.size 0 lo:Nat):Int)=0:=eq_of_beq q.1.1;have q2:dw items.size items.size hi-dw items.size 0 lo=items.size:=eq_of_beq q.2;exact hw ⟨∅,∅⟩
 show wpAny _ _ (if (((dw items.size 0 lo:Nat):Int)==0&&(1:Int)==1&&(dw items.size items.size hi-dw items.size 0 lo)==items.size)=true then _ else _) _ _ s;rw[a8 Kx,zM]
 first
  | exact au (m:=Builtin.Tuple.tupleExact _) (mM (aO ⟨_,rfl,aO h⟩) vt)
  | exact au (m:=Builtin.Tuple.tupleExact _) (mM (au (aO (aO ⟨_,rfl,aO h⟩))) vt)
  | exact au (au (m:=Builtin.Tuple.tupleExact _) (mM (aO (aO ⟨_,rfl,aO h⟩)) vt))
  | exact au (au (m:=Builtin.Tuple.tupleExact _) (mM (aO ⟨_,rfl,aO h⟩) vt))
end
end HT
namespace L2
open PySem PySem.Spec PyProof.Rows
abbrev TO:=St->Hp->(Option Int->Hp->Prop)->Prop
noncomputable def PO(X:Cx)(e:Option Expr)(t:TO):Prop :=
 ∀(ae:List (Addr×Obj))(s:Shared)(σ:St)(H:Hp)(Q:Option Int->Hp->Prop),Inv X ae σ H s->t σ H Q ->
  wpAny (model X.prog X.w) X.A (evalPart e X.env) (λu s'=>∃o H',Inv X ae σ H' s'/\IsPart u o/\Q o H') X.xe s
def Dj:TO:=λ_ H Q=>Q none H
noncomputable def L4(t:TE):TO:=λσ H Q=>t σ H λx H1=>∃i,x=.int i/\Q (some i) H1
section
variable {X:Cx} {e:Expr} {te:TE} {lo hi:Option Expr} {tl th:TO} {pos p2:Pos}
theorem Dk:PO X none Dj:=by
 intro ae s σ H Q I h;rw[evalPart_none];exact aO ⟨none,H,I,.none,h⟩
theorem Dl(h:PE X e te):PO X (some e) (L4 te):=by
 intro ae s σ H Q I hw;rw[evalPart_some];refine bP (h ae s σ H _ I hw) ?_;rintro u s1 ⟨x,H1,I1,r1,q1⟩;obtain⟨i,rfl,q⟩:=q1;obtain⟨t,rfl⟩:=r1;exact⟨some i,H1,I1,.int i t,q⟩
def O7(X:Cx)(r:V->Option Int->Option Int->Hp->VK->Prop):Prop :=
 ∀(ae:List (Addr×Obj))(s:Shared)(σ:St)(H:Hp)(x:V)(v vl vu:Value)(lo hi:Option Int)(sl:Addr)(Q:VK),Inv X ae σ H s->RelV x v->s.heap.IsSliceOf sl vl vu .none->IsPart vl lo->IsPart vu hi->r x lo hi H Q ->
  ∃T id,typeLookup (.type T) "__getitem__" = pure (some (.builtin id))/\s.TypeIs v T/\wpAny (model X.prog X.w) X.A (getItem v (.ref sl)) (EP X ae σ Q) X.xe s
noncomputable def U9(r:V->Option Int->Option Int->Hp->VK->Prop)(te:TE)(tl th:TO):TE:=λσ H Q=>te σ H λx H1=>tl σ H1 λl H2=>th σ H2 λu H3=>r x l u H3 Q
theorem zN{r:V->Option Int->Option Int->Hp->VK->Prop}(hr:O7 X r)(he:PE X e te)(hl:PO X lo tl)(hu:PO X hi th):PE X (.Subscript e (.Slice lo hi none p2) pos) (U9 r te tl th):=by
 intro ae s σ H Q I h;refine Subscript_ (bP (he ae s σ H _ I h) ?_);rintro v s1 ⟨x,H1,I1,r1,q1⟩;refine wpAny_Slice (bP (hl ae s1 σ H1 _ I1 q1) λvl s2 ⟨l,H2,I2,pl,q2⟩=>bP (hu ae s2 σ H2 _ I2 q2) λvu s3 ⟨u,H3,I3,pu,q3⟩=>?_);rw[evalPart_none];refine aO ?_;have I4:Inv X ae σ H3 {s3 with heap:=s3.heap.push {cls:=.type "slice",data:=.fields #[vl,vu,.none]}}:=I3.kept (t':=s3.toks) λb ob q=>cT _ q;obtain⟨T,id,hT,ht,hg⟩:=hr ae {s3 with heap:=s3.heap.push {cls:=.type "slice",data:=.fields #[vl,vu,.none]}} σ H3 x v vl vu l u s3.heap.objs.size Q I4 r1 (Heap.IsSliceOf.new ..) pl pu q3;show wpAny (model X.prog X.w) X.A (subscriptTail e (.Slice lo hi none p2) v (.ref s3.heap.objs.size)) (EP X ae σ Q) X.xe {s3 with heap:=s3.heap.push {cls:=.type "slice",data:=.fields #[vl,vu,.none]}};exact tail_any (ops:=[.ref s3.heap.objs.size,v]) ht hT hg (by with_unfolding_all rfl)
def qU(xs:List V)(lo hi:Option Int):List V:=(xs.drop (HT.dw xs.length 0 lo)).take (HT.dw xs.length xs.length hi-HT.dw xs.length 0 lo)
theorem jW(xs:List V)(lo hi:Option Int):(qU xs lo hi).length<=xs.length:=by
 unfold qU;rw[iI,CL];omega
def QL(K:Frag):V->Option Int->Option Int->Hp->VK->Prop:=λx lo hi H Q=>∃a xs,x=.ref a/\gU K H a xs /\
 ¬(HT.dw xs.length 0 lo=0/\HT.dw xs.length xs.length hi=xs.length)/\∀p,H p=none->Q (.ref p) (br H p (.tup (qU xs lo hi)))
theorem HC:O7 X (QL X.K):=by
 intro ae s σ H x v vl vu lo hi sl Q I rx hs pl pu h;obtain⟨a,xs,rfl,hx,hw,q⟩:=h;cases rx;obtain⟨aC,r,ht,hz⟩:=I.tuple hx;have aY:aC.toArray.size=xs.length:=by rw[cO];exact r.length.symm
 refine⟨"tuple",_,wN.lookup,ht.typeIs,?_⟩;refine HT.iP ht hs pl pu (by rw[aY];exact hw) ?_ (by rw[aY];exact hz);rw[aY];refine⟨.ref s.heap.objs.size,_,I.laid (t':=s.toks) (o:=.tup (qU xs lo hi)) (λb ob q=>cT _ q) (aL _) ?_,rfl,q _ (I.bt.fresh (aL _))⟩;exact⟨cJ (jW xs lo hi) hz,_,(r.drop (HT.dw xs.length 0 lo)).take (HT.dw xs.length xs.length hi-HT.dw xs.length 0 lo),IsTup.new _ _⟩
def L5(K:Frag):R2:=λx y H Q=>∃a b xs ys,x=.ref a/\y=.ref b/\gU K H a xs/\gU K H b ys/\xs≠[]/\xs.length+ys.length<=sizeLine /\
 (ys=[]->Q (.ref a) H)/\(ys≠[]->∀p,H p=none->Q (.ref p) (br H p (.tup (xs++ys))))
theorem aP.oV{xs:List V}{us:List Value}(r:aP xs us):us=[]↔xs=[]:=by
 cases r with
 | nil=>simp
 | cons _ _=>simp
theorem Dm:gY X (binaryOp .Add) (L5 X.K):=by
 intro ae s σ H x y v u Q I rx ry h;obtain⟨a,b,xs,ys,rfl,rfl,ha,hb,hx,hz,q1,q2⟩:=h;cases rx;cases ry;obtain⟨aC,r1,p1,_⟩:=I.tuple ha;obtain⟨zO,r2,p2,_⟩:=I.tuple hb;refine HT.Dh p1 p2 (λz=>hx (r1.oV.mp z)) (λz=>⟨.ref a,H,I,rfl,q1 (r2.oV.mp z)⟩) (λz=>?_) (by rw[<- r1.length,<- r2.length];exact hz);refine⟨.ref s.heap.objs.size,_,I.laid (t':=s.toks) (o:=.tup (xs++ys)) (λb ob q=>cT _ q) (aL _) ?_,rfl,q2 (λw=>z (r2.oV.mpr w)) _ (I.bt.fresh (aL _))⟩;exact⟨by rw[fB];exact hz,_,r1.append r2,IsTup.new _ _⟩
end
noncomputable def zP(n:Nat)(i:Int):Option Nat:=if 0<=i then (if i<n then some i.toNat else none) else if -(n:Int)<=i then some (i+n).toNat else none
def vv{α:Type}(xs:List α)(i:Int):Option α:=(zP xs.length i).bind λj=>xs[j]?
theorem vA{n:Nat}{i:Int}{j:Nat}(h:zP n i=some j):seqIndex? i n=some j/\j<n/\-(n:Int)<=i/\i<n:=by
 unfold zP at h;by_cases h0:0<=i
 ·rw[aS h0]at h;by_cases h1:i<n
  ·rw[aS h1]at h;have e:i.toNat=j:=cU h;exact⟨by rw[seqIndex_of h0 h1,e],∅,∅,h1⟩
  ·rw[a8 h1]at h;cases h
 ·rw[a8 h0]at h;by_cases h1:-(n:Int)<=i
  ·rw[aS h1]at h;have e:(i+n).toNat=j:=cU h;exact⟨by rw[seqIndex_neg ∅ h1,e],∅,h1,∅⟩
  ·rw[a8 h1]at h;cases h
theorem oW{α:Type}{xs:List α}{i:Int}{v:α}(h:vv xs i=some v):∃j,seqIndex? i xs.length=some j/\xs[j]?=some v/\j<xs.length/\-(xs.length:Int)<=i/\i<xs.length:=by
 unfold vv at h
 cases e:zP xs.length i with
 | none=>rw[e]at h;cases h
 | some j =>
  rw[e]at h;obtain⟨h1,h2,h3,h4⟩:=vA e;exact⟨j,h1,h,h2,h3,h4⟩
noncomputable def vB(b:Expr):Prop:=∀o i,subscripted b false o i=operate [o,i] (getItem o i)
def L6(X:Cx)(r:R2):Prop :=
 ∀(value iQ:Expr)(ae:List (Addr×Obj))(s:Shared)(σ:St)(H:Hp)(x y:V)(v u:Value)(Q:VK),Inv X ae σ H s->RelV x v->RelV y u->r x y H Q ->
  subscripted iQ false v u=operate [v,u] (getItem v u)->wpAny (model X.prog X.w) X.A (subscriptTail value iQ v u) (EP X ae σ Q) X.xe s
def L7(X:Cx)(id:String)(r:V->List V->Hp->VK->Prop):Prop :=
 ∀(ae:List (Addr×Obj))(s:Shared)(σ:St)(H:Hp)(x:V)(xs:List V)(v:Value)(us:List Value)(Q:VK),Inv X ae σ H s->RelV x v->aP xs us->r x xs H Q ->
  wpAny (model X.prog X.w) X.A (call (.builtin id) (v::us)) (EP X ae σ Q) X.xe s
section
variable {X:Cx} {a b:Expr} {ta tb:TE} {pos:Pos}
theorem L8{r:R2}(hr:L6 X r)(ha:PE X a ta)(hb:PE X b tb)(hs:vB b):PE X (.Subscript a b pos) (C5 r ta tb):=by
 intro ae s σ H Q I h;exact Subscript_ (Hg ha hb I h λv u s2 x y H2 I2 rx ry q=>hr a b ae s2 σ H2 x y v u Q I2 rx ry q (hs _ _))
def QM(K:Frag):R2:=λx y H Q=>∃p xs i v,x=.ref p/\y=.int i/\gj K H p xs/\vv xs i=some v/\Q v H
def QN(K:Frag):R2:=λx y H Q=>∃p xs i v,x=.ref p/\y=.int i/\gU K H p xs/\vv xs i=some v/\Q v H
def QO:R2:=λx y H Q=>∃z i c,x=.str z/\y=.int i/\z.length<=sizeLine/\vv z.cps.toList i=some c/\Q (.str ⟨#[c]⟩) H
theorem Dp:L6 X (QM X.K):=by
 intro value iQ ae s σ H x y v u Q I rx ry h hs;obtain⟨p,xs,i,z,rfl,rfl,hq,he,q⟩:=h;cases rx;obtain⟨t,rfl⟩:=ry;obtain⟨aC,r,pl,hz⟩:=I.list hq;obtain⟨j,h1,h2,h3,h4,h5⟩:=oW he;obtain⟨w,ew,xD⟩:=r.get h2;have hl:=r.length;have hn:=ig;have fin:EP X ae σ Q w s:=⟨z,H,I,xD,q⟩;by_cases h0:0<=i
 ·have hj:i.toNat=j:=by
   rw[seqIndex_of h0 h5]at h1;exact cU h1
  exact item_listR pl.isList h0 ∅ (by rw[hj];simpa using ew) fin hs
 ·have hj:(i+(aC.toArray.size:Int)).toNat=j:=by
   rw[seqIndex_neg ∅ h4]at h1;rw[cO,<- hl];exact cU h1
  exact subscriptTail_builtinR (x:=w) pl.isList.typeIs slot_list_getitem.lookup
   (wpAny_getItem_list_neg (Q:=λr s'=>r=w/\EP X ae σ Q r s') pl.isList ∅ (by rw[cO]<;>omega) ∅ (by rw[hj];simpa using ew) ⟨rfl,fin⟩) hs
theorem HD:L6 X (QN X.K):=by
 intro value iQ ae s σ H x y v u Q I rx ry h hs;obtain⟨p,xs,i,z,rfl,rfl,hq,he,q⟩:=h;cases rx;obtain⟨t,rfl⟩:=ry;obtain⟨aC,r,pl,hz⟩:=I.tuple hq;obtain⟨j,h1,h2,h3,h4,h5⟩:=oW he;obtain⟨w,ew,xD⟩:=r.get h2;have hl:=r.length;have hn:=ig;have fin:EP X ae σ Q w s:=⟨z,H,I,xD,q⟩
 exact subscriptTail_builtinR (x:=w) pl.typeIs slot_tuple_getitem.lookup
  (getItem_tuple (j:=j) (Q:=λr s'=>r=w/\EP X ae σ Q r s') pl ∅ ∅ (by rw[cO,<- hl];exact h1) (by simpa using ew) ⟨rfl,fin⟩) hs
theorem HE:L6 X QO:=by
 intro value iQ ae s σ H x y v u Q I rx ry h hs;obtain⟨z,i,c,rfl,rfl,hz,he,q⟩:=h;obtain⟨t,rfl⟩:=rx;obtain⟨t',rfl⟩:=ry;obtain⟨j,h1,h2,h3,h4,h5⟩:=oW he;have hl:z.cps.toList.length=z.length:=by simp[Str.length]
 rw[hl]at h1 h4 h5;have hn:=ig
 exact tail_any (typeIs_str s z t) slot_str_getitem.lookup (getItem_str (c:=c) (by
  have e1:decide (i < -(2 ^ 63:Int))=false:=eh ∅;have e2:decide (i ≥ 2 ^ 63)=false:=eh ∅;rw[e1,e2,Bool.or_false]) (by rw[h1];simpa using h2) ⟨.str ⟨#[c]⟩,H,I.tok _,⟨_,rfl⟩,q⟩) hs
theorem tP(aC:List Value)(n j:Nat)(u:Value):Obj.mapSeq (·.setIfInBounds j u) {cls:=.type "list",data:=.seq aC.toArray n}={cls:=.type "list",data:=.seq (aC.set j u).toArray n}:=by
 simp[Obj.mapSeq]
theorem Inv.lst{ae:List (Addr×Obj)}{σ:St}{H:Hp}{s:Shared}{p:Addr}{xs:List V}(I:Inv X ae σ H s)(h:H p=some (.lst xs)):∃(aC:List Value) (n:Nat),aP xs aC/\s.heap.get? p=some {cls:=.type "list",data:=.seq aC.toArray n}/\xs.length<=sizeLine:=by
 obtain⟨z,aC,n,r,e⟩:=I.bt p _ h;exact⟨aC,n,r,e,z⟩
theorem Inv.HF{ae:List (Addr×Obj)}{σ:St}{H:Hp}{s:Shared}{p:Addr}{xs ys:List V}{aC its':List Value}{n n':Nat}{f:Obj->Obj}(I:Inv X ae σ H s)(h:H p=some (.lst xs)) (ho:s.heap.get? p=some {cls:=.type "list",data:=.seq aC.toArray n}) (hf:f {cls:=.type "list",data:=.seq aC.toArray n}={cls:=.type "list",data:=.seq its'.toArray n'}) (r:aP ys its') (hz:ys.length<=sizeLine) (t:Nat):Inv X ae σ (br H p (.lst ys)) {s with heap:=s.heap.update p f,toks:=t}:=by
 have e:(s.heap.update p f).get? p=some {cls:=.type "list",data:=.seq its'.toArray n'}:=by
  rw[yL f ho (by rw[hf]<;>rfl),hf]
 refine I.write (x:=p) (e:=p) (by rw[h];trivial) (.inl rfl) (λb u hb q=>(qx _ _ (cK hb)).trans q) ⟨_,e⟩ ?_;exact⟨hz,its',n',r,e⟩
def L9:V->V->V->Hp->(Hp->Prop)->Prop:=λo i v H Q=>∃p xs k j,o=.ref p/\i=.int k/\H p=some (.lst xs)/\zP xs.length k=some j/\Q (br H p (.lst (xs.set j v)))
theorem zQ:Ha X L9:=by
 intro ae s σ H o i v ov iv u Q I ro ri rv h;obtain⟨p,xs,k,j,rfl,rfl,hp,hj,q⟩:=h;cases ro;obtain⟨t,rfl⟩:=ri;obtain⟨aC,n,r,ho,hz⟩:=I.lst hp;obtain⟨h1,h2,h3,h4⟩:=vA hj;have hl:=r.length;have hn:=ig
 have I':Inv X ae σ (br H p (.lst (xs.set j v))) {s with heap:=s.heap.update p (Obj.mapSeq (·.setIfInBounds j u))} :=
  I.HF hp ho (tP aC n j u) (r.set rv j) (by rw[jt];exact hz) s.toks
 by_cases h0:0<=k
 ·have hk:k.toNat=j:=by
   rw[seqIndex_of h0 h4]at h1;exact cU h1
  exact PySem.W.ki_setAt ho h0 ∅ (by rw[cO,<- hl];exact h4) (by rw[hk];exact⟨_,I',q⟩)
 ·have hk:(k+(aC.toArray.size:Int)).toNat=j:=by
   rw[seqIndex_neg ∅ h3]at h1;rw[cO,<- hl];exact cU h1
  exact PySem.W.ki_setBack ho ∅ (by rw[cO,<- hl];exact h3) ∅ (by rw[hk];exact⟨_,I',q⟩)
theorem oX(lo hi:Option Int)(n:Nat):(sliceBounds lo hi none n).1=((HT.dw n 0 lo:Nat):Int)/\(sliceBounds lo hi none n).2.1=((HT.dw n n hi:Nat):Int)/\(sliceBounds lo hi none n).2.2=1:=by
 refine⟨?_,?_,rfl⟩
 ·cases lo with
  | none=>simp[sliceBounds,HT.dw]
  | some i =>
   simp only[sliceBounds,HT.dw,Option.getD_none,show(1:Int)>0 by decide,dD];by_cases h:i<0
   ·simp only[h,dD]<;>omega
   ·simp only[h,ou]<;>omega
 ·cases hi with
  | none=>simp[sliceBounds,HT.dw]
  | some i =>
   simp only[sliceBounds,HT.dw,Option.getD_none,show(1:Int)>0 by decide,dD];by_cases h:i<0
   ·simp only[h,dD]<;>omega
   ·simp only[h,ou]<;>omega
theorem mR(aC:List Value)(lo hi:Option Int):slicePick aC.toArray lo hi none=((aC.drop (HT.dw aC.length 0 lo)).take (HT.dw aC.length aC.length hi-HT.dw aC.length 0 lo)).toArray:=by
 obtain⟨h1,h2,h3⟩:=oX lo hi aC.toArray.size;unfold slicePick;rw[h1,h2,h3];simp only[sliceRange_one,pick_run,cO]<;>rfl
def QP(K:Frag):V->Option Int->Option Int->Hp->VK->Prop:=λx lo hi H Q=>∃a xs,x=.ref a/\gj K H a xs/\∀p,H p=none->Q (.ref p) (br H p (.lst (qU xs lo hi)))
theorem Dq:O7 X (QP X.K):=by
 intro ae s σ H x v vl vu lo hi sl Q I rx hs pl pu h;obtain⟨a,xs,rfl,hx,q⟩:=h;cases rx;obtain⟨aC,r,ht,hz⟩:=I.list hx;have aY:=r.length;refine⟨"list",_,slot_list_getitem.lookup,ht.isList.typeIs,?_⟩;refine wpAny_getItem_list_slice ht.isList hs pl pu .none (by simp) ?_ (by rw[cO]<;>omega);rw[mR,<- aY];refine⟨.ref s.heap.objs.size,_,I.laid (t':=s.toks) (o:=.lst (qU xs lo hi)) (λb ob q=>cT _ q) (aL _) ?_,rfl,q _ (I.bt.fresh (aL _))⟩;exact⟨cJ (jW xs lo hi) hz,_,0,(r.drop (HT.dw xs.length 0 lo)).take (HT.dw xs.length xs.length hi-HT.dw xs.length 0 lo),kT _ rfl⟩
theorem oY:dg X (.builtin "len") (λxs H Q=>∃p ys,xs=[.ref p]/\(gj X.K H p ys\/gU X.K H p ys)/\Q (.int ys.length) H):=by
 intro ae s σ H xs us Q I r h;obtain⟨p,ys,rfl,hq,q⟩:=h;obtain⟨u,rfl,rx⟩:=vals1 r;cases rx;have hn:=ig;rcases hq with hq | hq
 ·obtain⟨aC,r',pl,hz⟩:=I.list hq;have aY:=r'.length;exact Calls.call_len_list pl.isList (by simp only[cO]<;>omega) ⟨.int ys.length,H,I.tok _,⟨s.toks+1,by rw[cO,aY]⟩,q⟩
 ·obtain⟨aC,r',pl,hz⟩:=I.tuple hq;have aY:=r'.length;exact len_tuple pl (by simp only[cO]<;>omega) ⟨.int ys.length,H,I.tok _,⟨s.toks+1,by rw[cO,aY]⟩,q⟩
theorem oZ:dg X (.builtin "len") (λxs H Q=>∃z,xs=[.str z]/\z.length<=sizeLine/\Q (.int z.length) H):=by
 intro ae s σ H xs us Q I r h;obtain⟨z,rfl,hz,q⟩:=h;obtain⟨u,rfl,t,rfl⟩:=vals1 r;have hn:=ig;exact len_str ∅ ⟨.int z.length,H,I.tok _,⟨_,rfl⟩,q⟩
theorem o_:dg X (.type "list") (λxs H Q=>∃p ys,xs=[.ref p]/\(gj X.K H p ys\/gU X.K H p ys)/\∀l,H l=none->Q (.ref l) (br H l (.lst ys))):=by
  intro ae s σ H xs us Q I r h;obtain⟨p,ys,rfl,hq,q⟩:=h;obtain⟨u,rfl,rx⟩:=vals1 r;cases rx
  have fin : ∀ (aC : List Value), aP ys aC -> ys.length <= sizeLine -> ∀ (h' : Heap) (c' : Nat), (∀ b o', s.heap.get? b = some o' -> h'.get? b = some o') ->
      h'.get? s.heap.objs.size=some {cls:=.type "list",dict:=none,data:=.seq aC.toArray c',slots:=#[]}->EP X ae σ Q (.ref s.heap.objs.size) {s with heap:=h'}:=λaC r' hz h' c' kp e =>
    ⟨.ref s.heap.objs.size,_,I.laid (t':=s.toks) kp (aL _) (show bD X.prog X.w _ h' _ (.lst ys) from ⟨hz,aC,c',r',e⟩),rfl,q _ (I.bt.fresh (aL _))⟩
  rcases hq with hq | hq
  · obtain⟨aC,r',pl,hz⟩:=I.list hq;have aY:=r'.length;obtain⟨o,ho,hc,n,hd⟩:=pl.isList;exact call_list_seq p (.inl rfl) ho hc hd (λh' c' kp e=>fin aC r' hz h' c' kp e) (by simp only[cO]<;>omega)
  · obtain⟨aC,r',pl,hz⟩:=I.tuple hq;have aY:=r'.length;obtain⟨o,ho,hc,n,hd⟩:=pl;exact call_list_seq p (.inr rfl) ho hc hd (λh' c' kp e=>fin aC r' hz h' c' kp e) (by simp only[cO]<;>omega)
theorem g8:dg X (.type "tuple") (λxs H Q=>∃p ys,xs=[.ref p]/\((gj X.K H p ys/\∀l,H l=none->Q (.ref l) (br H l (.tup ys)))\/(gU X.K H p ys/\Q (.ref p) H))):=by
 intro ae s σ H xs us Q I r h;obtain⟨p,ys,rfl,h⟩:=h;obtain⟨u,rfl,rx⟩:=vals1 r;cases rx;rcases h with⟨hq,q⟩|⟨hq,q⟩
 ·obtain⟨aC,r',pl,hz⟩:=I.list hq;have aY:=r'.length;refine call_tuple_list pl.isList (λh' kp=>?_) (by simp only[cO]<;>omega);have I1:Inv X ae σ H {s with heap:=h'}:=I.kept (t':=s.toks) kp
  have I2:Inv X ae σ (br H h'.objs.size (.tup ys)) {s with heap:=h'.push {cls:=.type "tuple",data:=.seq aC.toArray}} :=
   I1.laid (t':=s.toks) (λb o e=>cT _ e) (aL _) (show bD X.prog X.w _ _ _ (.tup ys) from ⟨hz,aC,r',IsTup.new _ _⟩)
  exact⟨.ref h'.objs.size,_,I2,rfl,q _ (I1.bt.fresh (aL _))⟩
 ·obtain⟨aC,r',pl,hz⟩:=I.tuple hq;exact call_tuple_same pl ⟨.ref p,H,I,rfl,q⟩
def QQ(K:Frag)(T:String)(x:V)(H:Hp):Prop:=match x with
  | .str _=>T = "str"
  | .int _=>T = "int"
  | .ref p => (T = "list" /\ ∃ xs, gj K H p xs) \/ (T = "tuple" /\ ∃ o, K.lookup p = some o /\ o.cls = .type "tuple" /\ o.dict = none) \/
      (T = "dict" /\ ((∃ao,H p=some (.dK ao))\/∃ao,H p=some (.dT ao)))\/(T = "set" /\ ∃S n,H p=some (.set S n))
  | _=>False
theorem zR{ae:List (Addr×Obj)}{σ:St}{H:Hp}{s:Shared}{T:String}{x:V}{v:Value}(I:Inv X ae σ H s)(r:RelV x v)(ty:QQ X.K T x H):s.TypeIs v T/\∀a,v=.ref a->∃ob,s.heap.get? a=some ob/\ob.dict=none:=by
 cases x with
 | str z =>
  obtain⟨t,rfl⟩:=r;cases (show T = "str" from ty);exact⟨typeIs_str s z t,λ_ e=>nomatch e⟩
 | int i =>
  obtain⟨t,rfl⟩:=r;cases (show T = "int" from ty);exact⟨typeIs_int s i t,λ_ e=>nomatch e⟩
 | ref p =>
  cases r;rcases ty with⟨rfl,xs,hq⟩|⟨rfl,o,hk,hc,hd⟩|⟨rfl,hk⟩|⟨rfl,S,n,hk⟩
  ·obtain⟨aC,_,pl,_⟩:=I.list hq;refine⟨pl.isList.typeIs,λa e=>?_⟩;cases e;obtain⟨o,n,e,c,hd,_⟩:=pl;exact⟨o,e,hd⟩
  ·refine⟨⟨o,I.jn p o hk,hc⟩,λa e=>?_⟩;cases e;exact⟨o,I.jn _ o hk,hd⟩
  ·have z:∃o,s.heap.get? p=some o/\o.ExactDict:=by
    rcases hk with⟨ao,hk⟩|⟨ao,hk⟩
    ·obtain⟨_,_,_,_,o,_,_,e,ex,_⟩:=I.bt p _ hk;exact⟨o,e,ex⟩
    ·obtain⟨_,_,_,_,o,_,_,e,ex,_⟩:=I.bt p _ hk;exact⟨o,e,ex⟩
   obtain⟨o,e,ex⟩:=z;refine⟨⟨o,e,ex.1⟩,λa e2=>?_⟩;cases e2;exact⟨o,e,ex.2.1⟩
  ·obtain⟨o,_,_,_,e,ex,_⟩:=I.bt p _ hk;refine⟨⟨o,e,ex.1⟩,λa e2=>?_⟩;cases e2;exact⟨o,e,ex.2.1⟩
 | _=>exact False.elim ty
def L_(K:Frag)(T:String)(r:V->List V->Hp->VK->Prop)(to:TE):TE:=λσ H Q=>to σ H λx H1=>QQ K T x H1/\r x [] H1 Q
def Tf(K:Frag)(T:String)(r:V->List V->Hp->VK->Prop)(to:TE)(t:TA):TE:=λσ H Q=>to σ H λx H1=>QQ K T x H1/\t σ H1 λxs H2=>r x xs H2 Q
variable {o e:Expr} {es:List Expr} {to:TE} {t:TA} {name:Str} {oR cF:Pos} {T id:String} {r:V->List V->Hp->VK->Prop}
theorem zS(pa:PlainAttrs T)(slot:Slot T name id) (QR:typeOf (.builtin id)=pure (.type "method_descriptor")) (hm:L7 X id r) (ho:PE X o to) (zT:attributeBase o name X.env (eval o X.env)=eval o X.env:=by rfl) (zU:(oR.endLine==cF.line)=true:=by rfl):PE X (.Call (.Attribute o name oR) [] [] cF) (L_ X.K T r to):=by
 intro ae s σ H Q I h;refine wpAny_Call_method0_late zT zU (bP (ho ae s σ H _ I h) ?_);rintro v s1 ⟨x,H1,I1,r1,ty,q1⟩;obtain⟨h1,h2⟩:=zR I1 r1 ty;exact⟨T,id,pa,slot,QR,h1,h2,Calls.callWith_builtin rfl (PySem.evalArgs_none (hm ae s1 σ H1 x [] v [] Q I1 r1 .nil q1))⟩
theorem FL (pa : PlainAttrs T) (slot : Slot T name id) (QR : typeOf (.builtin id) = pure (.type "method_descriptor")) (hm : L7 X id r) (ho : PE X o to) (ha : PA X (e :: es) t)
    (zT:attributeBase o name X.env (eval o X.env)=eval o X.env:=by rfl)
    (Dr:((backTo cF (starEach (e::es) X.env)).all (λx=>!x.1)&&(backToKw cF (keywordEach [] X.env)).all (λx=>x.1.isSome)
      && decide ((e::es).length+([]:List Keyword).length+(if ([]:List Keyword).isEmpty then 0 else 1)<30))=true:=by rfl)
    (zU:(oR.endLine==cF.line)=true:=by rfl) (hs:starEach (e::es) X.env=(false,eval e X.env)::starEach es X.env:=by rfl) (HG:(backTo cF (starEach es X.env)).any (·.1)=false:=by rfl) :
    PE X (.Call (.Attribute o name oR) (e::es) [] cF) (Tf X.K T r to t):=by
  intro ae s σ H Q I h;refine wpAny_Call_method_late zT Dr zU rfl (bP (ho ae s σ H _ I h) ?_);rintro v s1 ⟨x,H1,I1,r1,ty,q1⟩;obtain⟨h1,h2⟩:=zR I1 r1 ty;refine⟨T,id,pa,slot,QR,h1,h2,?_⟩;have hA:=ha cF ae s1 σ H1 _ I1 q1;rw[hs]at hA⊢;refine Calls.callWith_builtin (by show(false||(backTo cF (starEach es X.env)).any (·.1))=false;rw[HG]<;>rfl) (Calls.evalArgs_plain ?_);exact bP hA λus s2 ⟨vs,H2,I2,r2,q2⟩=>hm ae s2 σ H2 x vs v us Q I2 r1 r2 q2
end
def U_(X:Cx)(id:String)(r:V->List V->Hp->VK->Prop):Prop :=
 ∀(ae:List (Addr×Obj))(s:Shared)(σ:St)(H:Hp)(x:V)(xs:List V)(v:Value)(us:List Value)(Q:VK),Inv X ae σ H s->RelV x v->aP xs us->r x xs H Q ->
  wpAny (model X.prog X.w) X.A (call (.builtin id) (v::us)) (EP X ae σ Q) X.xe s
theorem aP.one{x:V}{us:List Value}(h:aP [x] us):∃u,us=[u]/\RelV x u:=by
 cases h with
 | cons r t=>cases t;exact⟨_,rfl,r⟩
theorem aP.two{x y:V}{us:List Value}(h:aP [x,y] us):∃u v,us=[u,v]/\RelV x u/\RelV y v:=by
 cases h with
 | cons r t=>obtain⟨v,rfl,q⟩:=aP.one t;exact⟨_,v,rfl,r,q⟩
theorem aP.dropLast{xs:List V}{us:List Value}(h:aP xs us):aP xs.dropLast us.dropLast:=by
 induction h with
 | nil=>exact .nil
 | cons r t ih =>
  cases t with
  | nil=>exact .nil
  | cons q t'=>exact .cons r ih
theorem aP.rep{xs:List V}{us:List Value}(h:aP xs us):∀k:Nat,aP (List.replicate k xs).flatten (List.replicate k us).flatten
 | 0=>.nil
 | k+1=>by
  rw[wV,wV,yO,yO];exact aP.append h (aP.rep h k)
theorem foldl_rep(aC:List Value):∀(k:Nat)(acc:List Value),List.foldl (λx1 x2=>x1++x2) acc.toArray (List.replicate k aC.toArray)=(acc++(List.replicate k aC).flatten).toArray
 | 0,acc=>by simp
 | k+1,acc=>by
  have e:acc.toArray++aC.toArray=(acc++aC).toArray:=by simp
  have e2:(acc++aC)++(List.replicate k aC).flatten=acc++(List.replicate (k+1) aC).flatten:=by
   rw[wV,yO,yP]
  rw[<- e2,<- foldl_rep aC k (acc++aC),<- e,wV,List.foldl_cons]
section
variable {X:Cx} {ae:List (Addr×Obj)} {σ:St} {H:Hp} {s:Shared} {l b:Addr} {xs ys zs:List V}
theorem Inv.Ma{aC its':List Value}{n:Nat}{f:Array Value->Array Value}{t':Nat}(I:Inv X ae σ H s)(hH:H l=some (.lst xs)) (e:s.heap.get? l=some {cls:=.type "list",data:=.seq aC.toArray n}) (hf:f aC.toArray=its'.toArray) (hv:aP ys its') (hz:ys.length<=sizeLine):Inv X ae σ (br H l (.lst ys)) {s with heap:=s.heap.update l (Obj.mapSeq f),toks:=t'}:=by
 have q:=PySem.IsL.update e f;rw[hf]at q;refine I.write (x:=l) (e:=l) (by rw[hH];exact trivial) (.inl rfl) (λb' u hb hu=>(qx s.heap (Obj.mapSeq f) (cK hb)).trans hu) ⟨_,q⟩ ?_;exact⟨hz,its',_,hv,q⟩
theorem Inv.Mb{aC:List Value}{t':Nat}(I:Inv X ae σ H s)(hv:aP ys aC)(hz:ys.length<=sizeLine):Inv X ae σ (br H s.heap.objs.size (.lst ys)) {s with heap:=s.heap.push {cls:=.type "list",data:=.seq aC.toArray},toks:=t'} :=
 I.laid (λ_ _ q=>cT _ q) (aL _) ⟨hz,aC,0,hv,kT _ rfl⟩
theorem Inv.fresh(I:Inv X ae σ H s):H s.heap.objs.size=none:=I.bt.fresh (aL _)
theorem Inv.zV(I:Inv X ae σ H s)(hH:H l=some (.lst xs)):xs.length<=sizeLine/\∃(aC:List Value) (n:Nat),aP xs aC/\xs.length=aC.length/\s.heap.get? l=some {cls:=.type "list",data:=.seq aC.toArray n}:=by
 obtain⟨z,aC,n,r,e⟩:=I.bt l _ hH;exact⟨z,aC,n,r,r.length,e⟩
theorem zW{n:Nat}(h:n<=sizeLine):Builtin.List.listTooLong n=false:=by
 unfold Builtin.List.listTooLong;exact eh ∅
end
section
variable {X:Cx}
def Ds:V->List V->Hp->VK->Prop:=λx vs H Q=>∃l xs y,x=.ref l/\vs=[y]/\H l=some (.lst xs)/\xs.length<sizeLine/\Q .aJ (br H l (.lst (xs++[y])))
theorem nC:U_ X "list.append" Ds:=by
 intro ae s σ H x vs v us Q I rx rv h;obtain⟨l,xs,y,rfl,rfl,hH,hz,q⟩:=h;cases rx;obtain⟨u,rfl,ru⟩:=rv.one;obtain⟨z,aC,n,r,hl,e⟩:=I.zV hH;refine call_meets F.slot_list_append ⟨_,e,rfl⟩ F.entry_list_append (F.args_list_append_2 _ _) (PySem.list_append l aC.toArray n u (by rw[cO];omega)) ⟨e,?_⟩;refine⟨.aJ,_,I.Ma (its':=aC++[u]) hH e (by simp) (r.append (.cons ru .nil)) ?_,rfl,q⟩;rw[fB,List.length_singleton];omega
def QS:R2:=λx y H Q=>∃l b xs zs,x=.ref l/\y=.ref b/\H l=some (.lst xs)/\H b=some (.lst zs)/\xs.length+zs.length<=sizeLine/\∀p,H p=none->Q (.ref p) (br H p (.lst (xs++zs)))
theorem HH:gY X (binaryOp .Add) QS:=by
 intro ae s σ H x y v u Q I rx ry h;obtain⟨l,b,xs,zs,rfl,rfl,hH,hB,hz,q⟩:=h;cases rx;cases ry;obtain⟨z,aC,n,r,hl,e⟩:=I.zV hH;obtain⟨z2,zO,n2,r2,Dt,e2⟩:=I.zV hB;refine PySem.P.add_list e e2 ?_ (by rw[cO,cO];omega);have ea:aC.toArray++zO.toArray=(aC++zO).toArray:=by simp
 rw[ea];exact⟨.ref _,_,I.Mb (t':=s.toks) (r.append r2) (by rw[fB];omega),rfl,q _ I.fresh⟩
def QT:R2:=λx y H Q=>∃l k xs,x=.ref l/\y=.int k/\H l=some (.lst xs)/\-(2 ^ 63)<=k/\k<2 ^ 63/\xs.length*k.toNat<=sizeLine /\
 ∀p,H p=none->Q (.ref p) (br H p (.lst (List.replicate k.toNat xs).flatten))
theorem Du{α:Type}(xs:List α)(k:Nat):(List.replicate k xs).flatten.length=k*xs.length:=by
 induction k with
 | zero=>simp
 | succ k ih=>rw[wV,yO,fB,ih,Nat.succ_mul,Nat.add_comm]
theorem HI:gY X (binaryOp .Mult) QT:=by
 intro ae s σ H x y v u Q I rx ry h;obtain⟨l,k,xs,rfl,rfl,hH,h1,h2,hz,q⟩:=h;cases rx;obtain⟨t,rfl⟩:=ry;obtain⟨z,aC,n,r,hl,e⟩:=I.zV hH;have aY:aC.toArray.size*k.toNat<=sizeLine:=by rw[cO,<- hl];exact hz
 have zX:¬aC.toArray.size*k.toNat>(2 ^ 63-1) / 8:=by
  have:(sizeLine:Nat)<=(2 ^ 63-1) / 8:=by decide
  omega
 have QU:¬(!Builtin.List.listFitsIndex k)=true:=by
  rw[fitsIndex_both h1 h2];exact a6
 have Mc:¬Builtin.List.listTooLong (aC.toArray.size*k.toNat)=true:=by
  rw[zW aY];exact a6
 have jD:List.foldl (λx1 x2=>x1++x2) #[] (List.replicate (if aC.toArray.isEmpty=true then 0 else k.toNat) aC.toArray)=(List.replicate k.toNat aC).flatten.toArray:=by
  have f0:∀m:Nat,List.foldl (λx1 x2=>x1++x2) #[] (List.replicate m aC.toArray)=(List.replicate m aC).flatten.toArray:=λm=>by
   have:=foldl_rep aC m [];rw[List.nil_append]at this;exact this
  rw[f0]
  cases aC with
  | nil=>simp
  | cons a r'=>rw[a8 (by simp)]
 refine wpAny_binaryOp_repeat_ref (T := "list") (U := "int") (by decide) ⟨_,e,rfl⟩ (λs'=>typeIs_int s' k t) noFill_list_mul F.fills_int_mul F.slot_int_rmul repeat_list F.slot_int_index.lookup
  (call_meets F.slot_int_rmul (typeIs_int s k t) F.entry_int_rmul (F.args_int_rmul_2 _ _) (int___rmul___int_list k t l aC.toArray n)
   ⟨e,rfl,⟨_,e,rfl⟩,call_meets F.slot_list_mul ⟨_,e,rfl⟩ F.entry_list_mul (F.args_list_mul_2 _ _) (AutoListH.list___mul___list_int_3 l aC.toArray n k t QU zX Mc) ⟨e,?_⟩⟩)
 rw[jD];exact⟨.ref _,_,I.Mb (t':=s.toks) (r.rep k.toNat) (by rw[Du,Nat.mul_comm];exact hz),rfl,q _ I.fresh⟩
end
end L2
namespace Tg
open PySem PySem.W PySem.Calls PyProof.Rows
theorem km{P:Params}{h:Heap}:∀(ns:List Int)(vs:List Value),WellAll P h vs (ns.map WData.int)->IntsAre vs ns:=by
 intro ns
 induction ns with
 | nil =>
  intro vs w;rw[mP]at w;cases w;exact .nil
 | cons n ns ih =>
  intro vs w;rw[fC]at w
  cases w with
  | cons a b =>
   cases a;exact .cons _ _ (ih _ b)
theorem xF{l:OpenLaw}{n:Nat}(hn:l.most=some n){P:Params}{h:Heap}{args:List WData}{vals:List Value}(Dv:l.row.toRowW.claim.pre args=true)(Dw:WellAll P h vals args):∃a vs ns,vals=[Value.ref a]/\args=[WData.list (ns.map WData.int)]/\h.get? a=some {cls:=.type "list",data:=.seq vs.toArray}/\IntsAre vs ns/\ns.length<=n:=by
 have Va:WShape.hasAll [] args [.list .int]=true:=(pre_splitW Dv).1;have hc:l.pre.holds [] {args:=args}=true:=(pre_splitW Dv).2;obtain⟨d,r,rfl,h1,h2⟩:=hasAllW_cons Va;obtain rfl:=hasAllW_nil h2;obtain⟨xs,rfl,h3⟩:=hasW_list h1;obtain⟨ns,rfl⟩:=items_int h3
 have aY:ns.length<=n:=by
  unfold OpenLaw.pre at hc
  have h4:(WTm.not (.lt (.lit (.int (n:Int))) (.len (.arg 0)))).holds [] {args:=[.list (ns.map .int)]}=true:=by
   have h4:=(holds_andW hc).1;rw[hn]at h4;exact h4
  have h5:=condW_of h4 (w_not (w_lt w_lit (w_len_list (w_arg rfl))));rw[aE]at h5;refine Nat.le_of_not_lt λq=>?_;have q':(n:Int)<((ns.length:Nat):Int):=∅
  first
   | (rw[e5 q']at h5;exact absurd h5 (by decide))
   | (simp at h5;omega)
 cases Dw with
 | cons w1 w2 =>
  cases w2
  cases w1 with
  | list ho HA=>exact⟨_,_,ns,rfl,rfl,ho,km ns _ HA,aY⟩
theorem xG(l:OpenLaw)(args:List WData):l.row.toRowW.claim.post args (.bool true) args=true :=
 postW_of (r:=l.row.toRowW) (X:=(true==true))
  (show WShape.has [] (.bool true) .bool=true by first | rfl | decide | simp[WShape.has,WShape.arms,WShape.armsAll])
  (show(WTm.eq .res (.lit (.bool true))).value [] {args:=args,res:=some (.bool true),after:=args}=some (.bool (true==true)) from w_eq_bool (w_res rfl) w_lit) rfl
theorem qV {l : OpenLaw} {n : Nat} {q : Program} {loose : List Str} {XP : (Str -> Option Value) -> Heap -> Prop} {YP : World -> Heap -> Prop} {d : DefRec}
    (hn:l.most=some n) (FN:d.params.defaults=[])
    (call:∀(w:World)(df bj:Shared)(mg mb:Str->Option Value)(fa:Addr)(o:Obj)(pm cd doc:Value)(a:Addr)(vs:List Value)(ns:List Int),
      Ground q loose [] XP w df mg mb bj.heap->YP w bj.heap ->
      bj.heap.get? fa=some o->o.data=.func (docDef d.name d.params d.body d.scope pm cd doc)->bj.heap.CodeRec cd d.name->mg d.name=some (.ref fa) ->
      bj.heap.get? a=some {cls:=.type "list",data:=.seq vs.toArray}->IntsAre vs ns->ns.length<=n->bj.gens=#[] ->
      codeAny (model l.prog w) callerA (.call (.ref fa) ⟨[.ref a],[]⟩) (λr s'=>r=.ok (.ret (.bool true))/\OldK bj.heap s'.heap/\s'.os=bj.os/\AllBare s'.gens) bj) :
    WalkO q loose XP YP l.row.toRowW d [] (λf vs=>PySem.call f vs):=by
  intro w df bj mg mb G Y fa o pm cd doc dV kV ho hd yz hD Md hg args vals as Dv Vb Dx Dw tQ;obtain rfl:dV=.none:=Dflts.none hD FN;obtain rfl:kV=.none:=Dflts.noKw hD;obtain⟨a,vs,ns,rfl,rfl,HJ,hints,aY⟩:=xF hn Dv Dw;refine enter_call (y4 (call w df bj mg mb fa o pm cd doc a vs ns G Y ho (fd_plain hd) yz Md HJ hints aY hg) λr s' hq=>?_);obtain⟨rfl,h2,h3,h4⟩:=hq;exact⟨.inl ⟨.bool true,.bool true,[],rfl,λ_=>rfl,.bool true,xG l _,λ_=>⟨List.Pairwise.nil,λ_ hm=>(nomatch hm)⟩⟩,h2,h3,h4⟩
end Tg
namespace L2
open PySem PySem.Spec PyProof.Rows
theorem nD:∀{vs:List Value}{ns:List Int},IntsAre vs ns->aP (ns.map V.int) vs
 | _,_,.nil=>.nil
 | _,_,.cons n t h=>.cons ⟨t,rfl⟩ (nD h)
noncomputable def Dy(H:Hp):Prop:=∀b,H b=none\/∃o xs,H b=some (.gh o (.lst xs))
theorem zY{P:Program}{w:World}{K:Frag}{mg mb:Str->Option Value}{CX:yA}{k:Nat}{fa a:Addr}{fd:FuncData}{x:Str}{sp:Sp}{bj:Shared}{vs:List Value}{ns:List Int}(KX:K.In bj.heap)(ko:bj.heap.Ns mainGlobals mg)(hb:bj.heap.Ns builtinsNs mb) (QV:∀x:Str,x≠ "__name__" -> mb x=bootBuiltins x) (QW:bj.heap.NoLimit) (hg:bj.gens=#[]) (ha:bj.heap.get? a=some {cls:=.type "list",data:=.seq vs.toArray}) (hi:IntsAre vs ns) (hl:ns.length<=sizeLine) (hr:eQ k callerA) (F:∀base:Heap,K.In base->base.Ns mainGlobals mg->dE P w K mg base CX k fa fd [x] sp) (Mf:∀(s:Shared)(u:Value),BindsTo s fd ⟨[u],[]⟩ [(x,u)]) (sP:∀H:Hp,Dy H->gj K H a (ns.map V.int)->sp [.ref a] H (λv _=>v=.bl true) λ_ _ _=>False) (QX:∀H e s',CX [] H bj (λ_ _ _=>False) e s'->False):codeAny (model P w) callerA (.call (.ref fa) ⟨[.ref a],[]⟩) (λr s'=>r=.ok (.ret (.bool true))/\OldK bj.heap s'.heap/\s'.os=bj.os/\AllBare s'.gens) bj:=by
  have rv:=nD hi;have QY:=hi.length
  have core : ∀ H : Hp, Dy H -> gj K H a (ns.map V.int) -> gS P w H bj.heap -> (∀ b, H b ≠ none -> b = a) -> (H a ≠ none -> K.lookup a = none) ->
      codeAny (model P w) callerA (.call (.ref fa) ⟨[.ref a],[]⟩) (λr s'=>r=.ok (.ret (.bool true))/\OldK bj.heap s'.heap/\s'.os=bj.os/\AllBare s'.gens) bj:=by
    intro H hO hS bt hA hK;have kz:∀{b:Addr}{o:Obj},bj.heap.get? b=some o->H b=none->(oz bj.heap H).get? b=some o:=λe n=>zc e n
    have LZ:∀{b:Addr}{o:Obj}{es:Array DictEntry}{ep:Nat},bj.heap.get? b=some o->o.data=.dict es ep->H b=none:=λ{b o es ep} e d=>by
      cases q:H b with
      | none=>rfl
      | some u =>
        have e':b=a:=hA b (by rw[q];simp);subst e';rw[ha]at e;cases e;have d':Data.seq vs.toArray _=Data.dict es ep:=d;cases d'
    have O8:∀{b:Addr}{m:Str->Option Value},bj.heap.Ns b m->(oz bj.heap H).Ns b m:=λ{b m} ⟨o,es,ep,e,d,r⟩=>⟨o,es,ep,kz e (LZ e d),d,r⟩
    have Th:K.In (oz bj.heap H):=λb o e=>kz (KX b o e) (by
      cases q:H b with
      | none=>rfl
      | some u =>
        have e':b=a:=hA b (by rw[q];simp);subst e';rw[hK (by rw[q];simp)]at e;cases e)
    have hM:Mod K mg (oz bj.heap H):=⟨Th,O8 ko,⟨mb,O8 hb,QV⟩,let ⟨mc,h1,h2⟩:=QW;⟨mc,O8 h1,h2⟩⟩;have e0:tL P w K mg (oz bj.heap H) callerA [] bj H:=⟨rfl,hM,λb o e=>CQ e,tj (xg _ _),trivial,λb hb=>absurd (show b∈([]:List Addr) from hb) (by simp),bt,.of_eq hg⟩;refine y4 ((F _ Th (O8 ko)).run callerA [] bj H ⟨[.ref a],[]⟩ [.ref a] [.ref a] _ _ hr e0 (Mf bj (.ref a)) (.cons rfl .nil) (sP H hO hS)) λr s' h=>?_
    cases r with
    | error e=>exact(QX H e s' h).elim
    | ok fl =>
      cases fl with
      | next=>exact False.elim h
      | brk=>exact False.elim h
      | cont=>exact False.elim h
      | ret u =>
        obtain⟨v,H',os,bare,un,QZ,r',q⟩:=h;have q':v=.bl true:=q;subst q';obtain rfl:u=Value.bool true:=r';refine⟨rfl,OldK.of_keep λb o e=>?_,os,bare⟩
        cases q:H b with
        | none=>exact un.keep b o e q (by intro z;exact absurd (show b∈([]:List Addr) from z) (by simp)) (by simp)
        | some u =>
          rcases hO b with z | ⟨ob,xs,z⟩
          · rw[q]at z;cases z
          · have z2:=un.jw b ob _ z;obtain⟨e1,_⟩:=bt b _ z;obtain⟨e2,_⟩:=QZ b _ z2;rw[e]at e1;cases e1;exact e2
  cases hk:K.lookup a with
  | some o =>
    have e:=KX a o hk;rw[ha]at e;cases e;refine core (λ_=>none) (λ_=>.inl rfl) (.inr ⟨_,vs.toArray,_,hk,rfl,rfl,rfl,by rw[cO,QY];exact hl,by simpa using rv⟩) (λb u z=>by have z':(none:Option HO)=some u:=z;cases z') (λb z=>absurd rfl z) λz=>absurd rfl z
  | none =>
    refine core (λb=>if b=a then some (.gh {cls:=.type "list",data:=.seq vs.toArray} (.lst (ns.map V.int))) else none) (λb=>?_) (.inl (.inr ⟨{cls:=.type "list",data:=.seq vs.toArray},aS rfl⟩)) (λb u z=>?_) (λb z=>?_) λ_=>hk
    · by_cases hb:b=a
      · exact .inr ⟨_,_,aS hb⟩
      · exact .inl (a8 hb)
    · by_cases hb:b=a
      · have z':=(aS hb).symm.trans z;cases z';subst hb;exact⟨ha,by rw[aE];exact hl,vs,_,rv,ha⟩
      · have z':=(a8 hb).symm.trans z;cases z'
    · by_cases hb:b=a
      · exact hb
      · exact absurd (a8 hb) z
theorem Dz {l : PySem.W.OpenLaw} {n k : Nat} {q : Program} {loose : List Str} {XP : (Str -> Option Value) -> Heap -> Prop} {YP : World -> Heap -> Prop} {d : DefRec} {K : Params -> Frag} {CX : World -> yA} {sp : World -> Sp} {x : Str}
    (hn:l.most=some n) (Mg:n<=sizeLine) (FN:d.params.defaults=[]) (hr:eQ k callerA)
    (hY:∀(w:World)(h:Heap),YP w h->(K w.params).In h)
    (F:∀(w:World)(mg:Str->Option Value)(fa:Addr)(h:Heap),(K w.params).In h->h.Ns mainGlobals mg->mg d.name=some (.ref fa) ->
      ∃fd:FuncData,(∀(s:Shared)(u:Value),BindsTo s fd ⟨[u],[]⟩ [(x,u)]) /\
        ∀base:Heap,(K w.params).In base->base.Ns mainGlobals mg->dE l.prog w (K w.params) mg base (CX w) k fa fd [x] (sp w))
    (sP:∀(w:World)(H:Hp)(a:Addr)(ns:List Int),ns.length<=n->Dy H->gj (K w.params) H a (ns.map V.int)->sp w [.ref a] H (λv _=>v=.bl true) λ_ _ _=>False)
    (QX:∀(w:World)(H:Hp)(s:Shared)(e:Value)(s':Shared),CX w [] H s (λ_ _ _=>False) e s'->False) :
    PySem.W.WalkO q loose XP YP l.row.toRowW d [] (λf vs=>PySem.call f vs):=by
  refine Tg.qV hn FN λw df bj mg mb fa o pm cd doc a vs ns G Y ho hd yz Md HJ hints aY hg=>?_;have KX:=hY w _ Y;obtain⟨fd,hb,hF⟩:=F w mg fa _ KX G.T.g Md;exact zY KX G.T.g G.T.b G.T.builtins G.T.nolimit hg HJ hints (cJ aY Mg) hr hF hb (λH hO hS=>sP w H a ns aY hO hS) λH e s'=>QX w H bj e s'
abbrev FO:yA:=λ_ _ _ _ _ _=>False
abbrev E0:XK:=λ_ _ _=>False
structure Ky (K:Frag) (x qual:Str) (st:Stmt) (f:Addr) (fd:FuncData):Prop where
 ex:∃(oc:Value) (od:Option Addr) (kV doc pm:Value) (an:Option Addr) (ki ct:Value) (Ci:Array (Option Value)),
  fd=PySem.W.fnOf x qual (eT st) (bZ st) (aF st) .none kV doc pm an ki ct/\K.lookup f=some ⟨oc,od,.func fd,Ci⟩/\PySem.W.codeIn K ki qual=true
 kp:PySem.W.keepIn K (.ref f)=true
section
variable {P:Program} {w:World} {K:Frag} {mg:Str->Option Value} {base:Heap}
theorem Ky.ok {x qual : Str} {st : Stmt} {f : Addr} {fd : FuncData} {N ps : List Str} {k : Nat} {sp : Sp} (F : Ky K x qual st f fd) (S : fF N ps (aF st)) (len : ∀ vs H Q E, sp vs H Q E -> vs.length = ps.length)
    (zF:∀(ki:Value)(A:Around)(outer:List Env)(s:Shared)(H:Hp)(vs:List V)(Q:VK)(E:XK),eQ k (A.deeper (envOfC qual (aF st) s.heap.objs.size f ki))->sp vs H Q E ->
      ∃t,nh (oS FO P w K mg base N qual (aF st) f ki A outer s H E).FC (bZ st) t/\t {nx:=λ_ H'=>Q .aJ H',rt:=Q} (start N vs) H):dE P w K mg base FO (k+1) f fd ps sp:=by
  obtain⟨oc,od,kV,doc,pm,an,ki,ct,Ci,rfl,lk,yz⟩:=F.ex;refine zE lk yz S len λA outer s H vs Q E hr sP=>?_;obtain⟨t,h,q⟩:=zF ki A outer s H vs Q E hr sP;exact⟨t,h.FC,q⟩
theorem pb{x qual:Str}{st:Stmt}{f:Addr}{oc:Value}{od an:Option Addr}{Ci:Array (Option Value)}{kV doc pm ki ct:Value}(l:K.lookup f=some ⟨oc,od,.func (PySem.W.fnOf x qual (eT st) (bZ st) (aF st) .none kV doc pm an ki ct),Ci⟩)(c:PySem.W.codeIn K ki qual=true)(k:PySem.W.keepIn K (.ref f)=true):Ky K x qual st f (PySem.W.fnOf x qual (eT st) (bZ st) (aF st) .none kV doc pm an ki ct):=⟨⟨oc,od,kV,doc,pm,an,ki,ct,Ci,rfl,l,c⟩,k⟩
end
end L2
end
section
namespace L2
open PySem PySem.Spec PyProof.Rows
section
variable {prog:Program} {w:World} {A:Around} {R:Result->Shared->Prop} {s:Shared}
theorem pd {elt jy aH : Expr} {ifs : List Expr} {scope : Scope} {pos : Pos} {it acc : Value} {env : Env} (I : Nat -> Shared -> Prop)
    (zv:∀n s,I n s->wpAny (model prog w) A (pyNext it) (λr bj=>match r with
      | none=>R (.ok .next) bj
      | some v => wpAny (model prog w) A (letOwnedTupleGo jy it v) (fun _ FP => wpAny (model prog w) A (assign jy env v) (fun _ xm =>
          wpAny (model prog w) A (forIn ifs true λc r=>if r=true then do let ok <- isTrue c env (eval c env);pure (ForInStep.yield ok) else pure (ForInStep.yield r)) (λok zZ =>
            if ok=true then wpAny (model prog w) A (eval elt env) (λx xH =>
              wpAny (model prog w) A (call (.builtin "list.append") [acc,x]) (λ_ z0=>∃m,m<n/\I m z0) (λ_ _=>False) xH) (λ_ _=>False) zZ
            else ∃m,m<n/\I m zZ) (λ_ _=>False) xm) (λ_ _=>False) FP) (λ_ _=>False) bj) (λ_ _=>False) s)
    (n:Nat) (h:I n s):codeAny (model prog w) A (.compLoop (.ListComp elt [⟨jy,aH,ifs,0⟩] scope pos) 0 it acc env) R s:=by
  refine codeAny_loop rfl I (λn s hI=>?_) n h;show wpAny _ A ((compTurn (.ListComp elt [⟨jy,aH,ifs,0⟩] scope pos) 0 it acc env).onRaise (λx=>do noteFrame x env;theTreesLotGoes x)) _ _ s;refine wpAny_noted ?_;rw[compTurn_list];refine au (w_ (au (ju (zv n s hI) (λr bj DA=>?_) λ_ _ h'=>h'.elim)))
  cases r with
  | none=>exact aO DA
  | some v =>
    refine au (ju DA (λ_ FP Mh=>?_) λ_ _ h'=>h'.elim);refine au (ju Mh (λ_ xm Q0=>au (ju Q0 (λok zZ Mi=>?_) λ_ _ h'=>h'.elim)) λ_ _ h'=>h'.elim)
    cases ok with
    | false=>exact aO ⟨rfl,Mi⟩
    | true =>
      exact au (au (ju Mi (λx xH Q1=>au (ju Q1 (λ_ z0 Q2=>aO (aO ⟨rfl,Q2⟩)) λ_ _ h'=>h'.elim)) λ_ _ h'=>h'.elim))
end
theorem cy{x:Str}:∀(names:List (Str×NameKind))(n:Nat)(acc:List (Str×Addr)),(x,NameKind.cell)∉names->(cellsFrom n names acc).lookup x=acc.lookup x
 | [],_,_,_=>rfl
 | (y,k)::r,n,acc,h=>by
  unfold cellsFrom;split
  ·rename_i hk
   have hk:k=.cell:=eq_of_beq hk;subst hk;rw[cy r (n+1) _ (λz=>h (dC _ z)),eF];have:(x==y)=false:=mL.mpr λz=>h (by subst z;exact eg);rw[this]
  ·exact cy r n acc λz=>h (dC _ z)
theorem e9{x:Str}{c:Addr}:∀(names:List (Str×NameKind))(n:Nat)(acc:List (Str×Addr)),(x,NameKind.cell)∈names->(cellsFrom n names acc).lookup x=some c->n<=c
 | [],_,_,h,_=>by cases h
 | (y,k)::r,n,acc,h,e=>by
  unfold cellsFrom at e;split at e
  ·by_cases hr:(x,NameKind.cell)∈r
   ·exact yQ (e9 r (n+1) _ hr e)
   ·rw[cy r (n+1) _ hr,eF]at e
    have:x=y:=by
     rcases bS.mp h with z | z
     ·exact(Prod.mk.inj z).1
     ·exact absurd z hr
    subst this;simp at e;exact tj e
  ·rename_i hk
   rcases bS.mp h with z | z
   ·exact absurd (by rw[<- (Prod.mk.inj z).2];rfl) hk
   ·exact e9 r n acc z e
theorem e_{x:Str}:∀(names:List (Str×NameKind))(n:Nat)(acc:List (Str×Addr)),(x,NameKind.cell)∈names->∃c,(cellsFrom n names acc).lookup x=some c
 | [],_,_,h=>by cases h
 | (y,k)::r,n,acc,h=>by
  unfold cellsFrom;split
  ·by_cases hr:(x,NameKind.cell)∈r
   ·exact e_ r (n+1) _ hr
   ·rw[cy r (n+1) _ hr,eF]
    have:x=y:=by
     rcases bS.mp h with z | z
     ·exact(Prod.mk.inj z).1
     ·exact absurd z hr
    subst this;simp
  ·rename_i hk
   rcases bS.mp h with z | z
   ·exact absurd (by rw[<- (Prod.mk.inj z).2];rfl) hk
   ·exact e_ r n acc z
theorem fb:∀(names:List (Str×NameKind))(n:Nat)(acc:List (Str×Addr)),(∀x c,acc.lookup x=some c->c<n)->(∀x y c,acc.lookup x=some c->acc.lookup y=some c->x=y)->∀x y c,(cellsFrom n names acc).lookup x=some c->(cellsFrom n names acc).lookup y=some c->x=y
 | [],_,_,_,h=>h
 | (z,k)::r,n,acc,hb,h=>by
  unfold cellsFrom;split
  ·refine fb r (n+1) _ (λx c e=>?_) (λx y c e1 e2=>?_)
   ·rw[eF]at e;split at e
    ·cases e;exact CM _
    ·exact Nat.lt_succ_of_lt (hb x c e)
   ·rw[eF]at e1 e2;split at e1
    ·rename_i hx
     cases e1;split at e2
     ·rename_i hy
      rw[eq_of_beq hx,eq_of_beq hy]
     ·exact absurd (hb y _ e2) (iJ _)
    ·split at e2
     ·cases e2;exact absurd (hb x _ e1) (iJ _)
     ·exact h x y c e1 e2
  ·exact fb r n acc hb h
theorem eG{x:Str}{c:Addr}:∀(names:List (Str×NameKind))(h:Heap)(acc:List (Str×Addr)),(cellsFrom h.objs.size names acc).lookup x=some c->acc.lookup x=some c\/(h.objs.size<=c/\(pushCells h names).IsCell c none)
 | [],_,_,e=>.inl e
 | (z,k)::r,h,acc,e=>by
  unfold cellsFrom at e;unfold pushCells;split at e
  ·rename_i hk
   rw[aS hk];have e':(cellsFrom (h.push {cls:=.type "cell",data:=.cell none}).objs.size r ((z,h.objs.size)::acc)).lookup x=some c:=by rw[w8];exact e
   rcases eG r (h.push {cls:=.type "cell",data:=.cell none}) _ e' with q | ⟨q1,q2⟩
   ·rw[eF]at q;split at q
    ·cases q;exact .inr ⟨aL _,_,pushCells_keeps _ _ _ _ (kT _ rfl),rfl⟩
    ·exact .inl q
   ·rw[w8]at q1;exact .inr ⟨yQ q1,q2⟩
  ·rename_i hk
   rw[a8 hk];exact eG r h acc e
theorem pe {M : Model} {A : Around} {E : Value -> Shared -> Prop} {s : Shared} {scope : Scope} {globals : Addr} {cl : List (Str × Addr)} {qual : Str} {outer : Env} {Q : Env -> Shared -> Prop}
    (hQ:Q {scope:=scope,locals:=s.heap.objs.size,globals:=globals,cells:=cellsFrom (s.heap.objs.size+1) scope.names cl,qual:=qual,func:=none,code:=outer.code,frame:=outer.frame,builtins:=outer.builtins}
      {s with heap:=pushCells (s.heap.push {cls:=.type "dict",data:=.dict #[]}) scope.names}) :
    wpAny M A (newFunctionEnv scope globals cl [] qual none .none (some outer)) Q E s:=by
  simp only[newFunctionEnv,Option.isSome_some,dD];refine au (wpAny_alloc ?_);refine au (wpAny_layCells _ (λname kind cells=>by cases Vc:kind==NameKind.cell<;>simp[Vc]) _ _ _ _ ?_);rw[show({s with heap:=s.heap.push {cls:=.type "dict",data:=.dict #[]}}:Shared).heap.objs.size=s.heap.objs.size+1 from w8 ..];rw[List.forIn_nil];exact au (aO (aO hQ))
noncomputable def Cx.block(X:Cx)(scope:Scope)(cl:List (Str×Addr))(C:Addr)(N':List Str)(s:Shared)(H:Hp)(fp:List Addr)(pn:List (Addr×Obj)):Cx :=
 {X with N:=N',df:=s,kZ:=H,env:=compEnvC scope (cellsFrom (C+1) scope.names cl) C X.env,outer:=X.stack,ex:=fp,fn:=λx=>scope.names.lookup x==some .cell,pn:=pn,xe:=λ_ _=>False}
structure HK (X:Cx) (scope:Scope) (cl:List (Str×Addr)):Prop where
 is:closureFor scope X.env=pure cl
 sub:∀x c,cl.lookup x=some c->X.env.cells.lookup x=some c
 has:∀x,scope.names.lookup x=some .free->∃c,cl.lookup x=some c
theorem dh {env : Env} : ∀ {names : List (Str × NameKind)} {x : Str} {k : NameKind}, names.lookup x = some k ->
    (names.map λ(n,k)=>if (k==NameKind.free&&env.scope.kind == .function&&env.kindOf n==some .cell) then (n,NameKind.cell) else (n,k)).lookup x =
      some (if (k==NameKind.free&&env.scope.kind == .function&&env.kindOf x==some .cell) then .cell else k)
  | [],_,_,h=>by simp at h
  | (n,k')::r,x,k,h=>by
    have ih:=@dh env r x k;show List.lookup x ((if (k'==NameKind.free&&env.scope.kind == .function&&env.kindOf n==some .cell)=true then (n,NameKind.cell) else (n,k'))::_)=_
    cases hx:x==n with
    | true =>
      simp only[eF,hx]at h;cases h;have e:x=n:=by simpa using hx
      subst e;split<;>simp[eF]
    | false =>
      simp only[eF,hx]at h;by_cases hc:(k'==NameKind.free&&env.scope.kind == .function&&env.kindOf n==some .cell)=true
      · rw[aS hc];simp only[eF,hx];exact ih h
      · rw[a8 hc];simp only[eF,hx];exact ih h
theorem ik {env : Env} : ∀ {names : List (Str × NameKind)} {x : Str} {k : NameKind},
    (names.map λ(n,k)=>if (k==NameKind.free&&env.scope.kind == .function&&env.kindOf n==some .cell) then (n,NameKind.cell) else (n,k)).lookup x=some k ->
      ∃k',names.lookup x=some k'/\k=(if (k'==NameKind.free&&env.scope.kind == .function&&env.kindOf x==some .cell) then .cell else k')
  | names,x,k,h=>by
    cases q:names.lookup x with
    | some k' =>
      have:=dh (env:=env) q;rw[this]at h;exact⟨k',rfl,(cU h).symm⟩
    | none =>
      exfalso
      induction names with
      | nil=>simp at h
      | cons a r ih =>
        obtain⟨n,k'⟩:=a
        cases hx:x==n with
        | true=>simp[eF,hx]at q
        | false =>
          simp only[eF,hx]at q;have h':List.lookup x ((if (k'==NameKind.free&&env.scope.kind == .function&&env.kindOf n==some .cell)=true then (n,NameKind.cell) else (n,k'))::(r.map λ(n,k)=>if (k==NameKind.free&&env.scope.kind == .function&&env.kindOf n==some .cell) then (n,NameKind.cell) else (n,k)))=some k:=h;by_cases hc:(k'==NameKind.free&&env.scope.kind == .function&&env.kindOf n==some .cell)=true
          · rw[aS hc]at h';simp only[eF,hx]at h';exact ih h' q
          · rw[a8 hc]at h';simp only[eF,hx]at h';exact ih h' q
noncomputable def iR(cD:List (Option Nat))(σ:St):St:=cD.map λo=>o.bind λj=>(σ[j]?).join
structure z4 (X:Cx) (scope:Scope) (N':List Str) (cD:List (Option Nat)):Prop where
 len:cD.length=N'.length
 out:∀(i j:Nat)(x:Str),cD[i]?=some (some j)->N'[i]?=some x->X.N[j]?=some x/\scope.names.lookup x=some .free/\(X.env.kindOf x=some .cell\/X.env.kindOf x=some .free)
section
variable {X:Cx} {ae:List (Addr×Obj)} {σ:St} {H:Hp} {s:Shared} {scope:Scope} {cl:List (Str×Addr)} {N':List Str} {cD:List (Option Nat)} {fp:List Addr}
theorem qW{h1:Heap}(I:Inv X ae σ H s)(zG:scope.kind=.function)(vg:∀y∈scope.names,y.2=.cell->scope.names.lookup y.1=some .cell)(cs:HK X scope cl)(co:z4 X scope N' cD)(hf:∀b∈fp,mQ X ae H b)(ho:∀b∈fp,b<s.heap.objs.size)(ko:h1.Ns s.heap.objs.size (λ_=>none))(hk:∀b u,s.heap.get? b=some u->h1.get? b=some u)(jD:∀x c,(cellsFrom (s.heap.objs.size+1) scope.names cl).lookup x=some c->cl.lookup x=some c\/(s.heap.objs.size+1<=c/\h1.IsCell c none))(tk:Nat):Inv (X.block scope cl s.heap.objs.size N' s H fp []) [] (iR cD σ) H {s with heap:=h1,toks:=tk}:=by
 have I1:Inv X ae σ H {s with heap:=h1,toks:=tk}:=I.kept hk
 have Fx:∀x c,cl.lookup x=some c->c<s.heap.objs.size:=λx c e=>by
  obtain⟨v,q⟩:=I.cell x c (cs.sub x c e);exact q.lt
 have fr:H s.heap.objs.size=none:=I.bt.fresh (aL _)
 have same:∀x,scope.names.lookup x=some .free->(cellsFrom (s.heap.objs.size+1) scope.names cl).lookup x=cl.lookup x:=λx hx =>
  cy _ _ _ λz=>by have:=vg _ z rfl;rw[hx]at this;cases this
 refine⟨⟨I.ok.mod,zG,I.ok.glob,I.ok.blt,aL _,fb _ _ _ (λx c e=>Nat.lt_succ_of_lt (Fx x c e)) (λx y c a b=>I.ok.inj x y c (cs.sub _ _ a) (cs.sub _ _ b)),λx hx=>?_,λx c z e=>?_,I.ok.hd,I.ok.frames,.inl rfl,λb hb=>⟨?_,λx c e=>?_⟩,λb o e=>I.bs b o e,
  cJ I.ok.Cg I.sz,λb o e hb=>?_,λb hb DB=>?_,I.stack,I.oB⟩,rfl,I.bare,Un.kept hk,⟨_,ko,λi x v e1 e2 e3=>?_⟩,λx c e=>?_,fr,λx c e=>?_,λp hp=>?_,I.bt.kept hk,?_⟩
 ·have hx:(relabel scope X.env).names.lookup x=some .cell\/(relabel scope X.env).names.lookup x=some .free:=hx
  have qk:∃k',scope.names.lookup x=some k'/\(k'=.free\/k'=.cell):=by
   have go:∀k,(k=.cell\/k=.free)->(relabel scope X.env).names.lookup x=some k->∃k',scope.names.lookup x=some k'/\(k'=.free\/k'=.cell):=by
    intro k hk hx;obtain⟨k',e,ek⟩:=ik hx;refine⟨k',e,?_⟩;by_cases z:k'=.free
    ·exact .inl z
    ·rw[a8 (by cases k'<;>first | exact absurd rfl z | simp)]at ek;subst ek;rcases hk with hk | hk
     ·exact .inr hk
     ·exact .inl hk
   rcases hx with hx | hx
   ·exact go _ (.inl rfl) hx
   ·exact go _ (.inr rfl) hx
  obtain⟨k',e,DC⟩:=qk;show ∃c,(cellsFrom (s.heap.objs.size+1) scope.names cl).lookup x=some c;rcases DC with z | z
  ·subst z;rw[same x e];exact cs.has x e
  ·subst z;exact e_ _ _ _ (kU e)
 ·have z:(scope.names.lookup x==some .cell)=true:=z;have z:scope.names.lookup x=some .cell:=eq_of_beq z;exact yQ (e9 _ _ _ (kU z) e)
 ·exact ej (ho b hb)
 ·rcases jD x c e with q | ⟨q,_⟩
  ·exact(hf b hb).2.2.2.2.1 x c (cs.sub x c q)
  ·have Vd:=ho b hb;intro z;rw[z]at q;exact absurd Vd (Nat.not_lt_of_le (yQ q))
 ·rcases(hf b hb).2.2.2.1 with z | z
  ·exact I.ok.xj b o e z
  ·have h1:=bL e;have h2:=I.ok.Cg;exact absurd (eZ h1 (cJ h2 z)) (iJ _)
 ·rcases bS.mp (I.oA b DB)with z | z
  ·exact(hf b hb).2.1 z
  ·exact(hf b hb).2.2.1 z
 ·have e1:N'[i]?=some x:=e1;unfold iR at e2;rw[dz]at e2
  cases q:cD[i]? with
  | none=>rw[q]at e2;cases e2
  | some oj =>
   rw[q]at e2
   cases oj with
   | none=>cases e2
   | some j =>
    have Mj:(σ[j]?).join=some v:=cU e2
    have Q3:σ[j]?=some (some v):=by
     cases r:σ[j]? with
     | none=>rw[r]at Mj;cases Mj
     | some ov=>rw[r]at Mj;cases ov with
      | none=>cases Mj
      | some z=>cases Mj;rfl
    obtain⟨o1,o2,o3⟩:=co.out i j x q e1;obtain⟨m,hn,hl⟩:=I1.loc;obtain⟨u,r,l⟩:=hl j x v o1 Q3 (o3.elim (λz=>.inr (.inl z)) λz=>.inr (.inr z));refine⟨u,r,.inr ⟨?_,?_⟩⟩
    ·show(relabel scope X.env).names.lookup x=some .cell\/(relabel scope X.env).names.lookup x=some .free;rw[show(relabel scope X.env).names.lookup x=_ from dh o2];split
     ·exact .inl rfl
     ·exact .inr rfl
    ·obtain⟨c,hc⟩:=cs.has x o2;have zd:=cs.sub x c hc;rcases l with⟨DC,hm⟩|⟨_,c2,yB,HL⟩
     ·exfalso;rw[DC]at o3;rcases o3 with o3 | o3<;>cases o3
     ·rw[zd]at yB;cases yB;exact⟨c,(same x o2).trans hc,HL⟩
 ·rcases jD x c e with q | ⟨_,q⟩
  ·exact I1.cell x c (cs.sub x c q)
  ·exact⟨none,q⟩
 ·rcases jD x c e with q | ⟨q,_⟩
  ·exact I1.fi x c (cs.sub x c q)
  ·exact I.bt.fresh (yQ q)
 ·exact absurd (show p∈([]:List (Addr×Obj)) from hp) (by simp)
 ·show(iR cD σ).length=N'.length;unfold iR;rw[aE];exact co.len
end
noncomputable def Q4:Option TT->TT
 | none=>λ_ H Q=>Q true H
 | some t=>t
def tR(cD:List (Option Nat))(g:TG)(tc:Option TT)(te:TE)(σ:St)(J:It)(H1:Hp)(Q:V->Hp->Prop):Prop :=
 ∀D,H1 D=none->∃W:Nat->Nat->St->Hp->List V->Prop,(∃m,W 0 m (iR cD σ) (br H1 D (.lst [])) []) /\
  ∀i m τ H ys,W i m τ H ys->H D=some (.lst ys)/\((J.stop i H/\Q (.ref D) H) \/
   (J.go i H/\ys.length<sizeLine/\∀x H',J.LL i H x H'->g x τ H' λCj H2=>Q4 tc Cj H2 λb H3 =>
    if b=true then te Cj H3 λv H4=>H4 D=some (.lst ys)/\∃m',m'<m/\W (i+1) m' Cj (br H4 D (.lst (ys++[v]))) (ys++[v])
    else ∃m',m'<m/\W (i+1) m' Cj H3 ys))
def vC(cD:List (Option Nat))(wi:TI)(g:TG)(tc:Option TT)(te:TE):TE:=λσ H Q=>wi σ H λJ H1=>tR cD g tc te σ J H1 Q
def Mk(X:Cx)(scope:Scope)(N':List Str)(cl:List (Str×Addr))(ifs:List Expr):Option TT->Prop
 | none=>ifs=[]
 | some t=>∃c,ifs=[c]/\∀C s H fp,PT (X.block scope cl C N' s H fp []) c t
structure jE (X:Cx) (scope:Scope) (N':List Str) (cD:List (Option Nat)) (cl:List (Str×Addr)) (tg elt:Expr) (ifs:List Expr) (g:TG) (tc:Option TT) (te:TE):Prop where
 kind:scope.kind=.function
 HM:∀y∈scope.names,y.2=.cell->scope.names.lookup y.1=some .cell
 names:∀y∈scope.names,y.2=.local->scope.names.lookup y.1=some .local
 HN:HK X scope cl
 Q5:z4 X scope N' cD
 tg:∀C s H fp,PG (X.block scope cl C N' s H fp []) tg g
 ifs:Mk X scope N' cl ifs tc
 elt:∀C s H fp,PE (X.block scope cl C N' s H fp []) elt te
section
variable {X:Cx} {scope:Scope} {N':List Str} {cD:List (Option Nat)} {cl:List (Str×Addr)} {tg elt aH:Expr} {ifs:List Expr} {g:TG} {tc:Option TT} {te:TE} {pos:Pos}
theorem qX {ae : List (Addr × Obj)} {s2 : Shared} {σ : St} {H2 : Hp} {it : Addr} {fp : List Addr} {tn : Nat -> Heap -> Prop} {J : It} {E : Value -> Shared -> Prop} {Q : V -> Hp -> Prop} {RR : Value -> Addr -> Result -> Shared -> Prop}
    (hc:X.calm=true) (ck:jE X scope N' cD cl tg elt ifs g tc te) (I2:Inv X ae σ H2 s2) (T:zp X.prog X.w X.K tg J fp it tn) (C2:tn 0 s2.heap) (f2:∀b∈fp,mQ X ae H2 b) (h:tR cD g tc te σ J H2 Q)
    (Ve:∀(D C:Addr)(H':Hp)(s':Shared)(m:Str->Option Value),Inv X ae σ H' s'->s'.heap.Ns C m->H' C=none->X.df.heap.objs.size<=C->C≠X.env.locals->C∉X.fs->(∀x c,X.env.cells.lookup x=some c->c≠C)->(∀p∈X.pn++ae,p.1≠C)->Q (.ref D) H'->RR (.ref D) C (.ok .next) s') :
    wpAny (model X.prog X.w) X.A (newList []) (λacc zZ=>wpAny (model X.prog X.w) X.A (newFunctionEnv scope X.env.globals cl [] X.env.qual none .none (some X.env)) (λMl xH =>
      codeAny (model X.prog X.w) X.A (.compStart (.ListComp elt [⟨tg,aH,ifs,0⟩] scope pos) 0 (.ref it) acc {Ml with scope:=relabel scope X.env}) (RR acc Ml.locals) xH) E zZ) E s2:=by
  refine mM ?_;generalize hH:s2.heap.push {cls:=.type "list",dict:=none,data:=.seq ([]:List Value).toArray}=hh;have hD:H2 s2.heap.objs.size=none:=I2.bt.fresh (aL _);have k3:∀b u,s2.heap.get? b=some u->hh.get? b=some u:=λb u e=>by rw[<- hH];exact cT _ e
  have I3:Inv X ae σ (br H2 s2.heap.objs.size (.lst [])) {s2 with heap:=hh} :=
    I2.laid (t':=s2.toks) k3 (aL _) ⟨xf _,[],0,.nil,by rw[<- hH];exact kT _ rfl⟩
  have f3:∀b∈fp,mQ X ae (br H2 s2.heap.objs.size (.lst [])) b:=λb hb=>by
    obtain⟨o,e,_⟩:=T.obj _ _ C2 b hb;exact⟨by rw[aj (ej (bL e))];exact(f2 b hb).1,(f2 b hb).2⟩
  have b3:∀b∈fp,b<hh.objs.size:=λb hb=>by
    obtain⟨o,e,_⟩:=T.obj _ _ C2 b hb;exact bL (k3 b o e)
  have O2:tn 0 hh:=T.keep _ _ _ C2 λb hb o e=>k3 b o e;obtain⟨W,⟨m0,w0⟩,zv⟩:=h s2.heap.objs.size hD;refine pe (s:={s2 with heap:=hh}) ?_;have k4:∀b u,hh.get? b=some u->(pushCells (hh.push {cls:=.type "dict",data:=.dict #[]}) scope.names).get? b=some u:=λb u e=>pushCells_keeps _ _ b u (cT _ e);have Mm:(pushCells (hh.push {cls:=.type "dict",data:=.dict #[]}) scope.names).Ns hh.objs.size (λ_=>none):=(Heap.Ns.new hh (.type "dict")).keeps (pushCells_keeps _ _)
  have jD:∀x c,(cellsFrom (hh.objs.size+1) scope.names cl).lookup x=some c->cl.lookup x=some c\/(hh.objs.size+1<=c/\(pushCells (hh.push {cls:=.type "dict",data:=.dict #[]}) scope.names).IsCell c none):=λx c e=>by
    have:=eG (x:=x) (c:=c) scope.names (hh.push {cls:=.type "dict",data:=.dict #[]}) cl (by rw[w8];exact e);rw[w8]at this;exact this
  generalize YZ:pushCells (hh.push {cls:=.type "dict",data:=.dict #[]}) scope.names=DA at k4 Mm jD;have O9:tn 0 DA:=T.keep _ _ _ O2 λb hb o e=>k4 b o e;have I4:=qW (tk:=s2.toks) I3 ck.kind ck.HM ck.HN ck.Q5 f3 b3 Mm k4 jD;generalize hX:X.block scope cl hh.objs.size N' {s2 with heap:=hh} (br H2 s2.heap.objs.size (.lst [])) fp []=X' at I4;have nE:X'.prog=X.prog:=by rw[<- hX];rfl
  have xw:X'.w=X.w:=by rw[<- hX];rfl
  have xK:X'.K=X.K:=by rw[<- hX];rfl
  have xA:X'.A=X.A:=by rw[<- hX];rfl
  have xc:X'.calm=true:=by rw[<- hX];exact hc
  have DD:X'.env=compEnvC scope (cellsFrom (hh.objs.size+1) scope.names cl) hh.objs.size X.env:=by rw[<- hX];rfl
  have O_:X'.xe=λ_ _=>False:=by rw[<- hX];rfl
  have Q6:∀{H':Hp},(∀b∈fp,H' b=none)->∀b∈fp,mQ X' [] H' b:=λ{H'} hn b hb=>by
    have z:=I4.ok.OX b (by rw[<- hX];exact hb);exact⟨hn b hb,z.1,I4.ok.xk b (by rw[<- hX];exact hb),.inl (by rw[<- hX];exact hb),z.2,λp hp=>absurd (show p∈([]:List (Addr×Obj)) by rw[<- hX]at hp;exact hp) (by simp)⟩
  have Ti:=ck.tg hh.objs.size {s2 with heap:=hh} (br H2 s2.heap.objs.size (.lst [])) fp;have Mn:=ck.ifs;have Mo:=ck.elt hh.objs.size {s2 with heap:=hh} (br H2 s2.heap.objs.size (.lst [])) fp;rw[hX]at Ti Mo
  have loop : ∀ s4 : Shared, Inv X' [] (iR cD σ) (br H2 s2.heap.objs.size (.lst [])) s4 -> tn 0 s4.heap ->
      codeAny (model X.prog X.w) X.A (.compLoop (.ListComp elt [⟨tg,aH,ifs,0⟩] scope pos) 0 (.ref it) (.ref s2.heap.objs.size) (compEnvC scope (cellsFrom (hh.objs.size+1) scope.names cl) hh.objs.size X.env)) (RR (.ref s2.heap.objs.size) hh.objs.size) s4:=by
    intro s4 I4 O9;refine pd (λn s'=>∃i τ H' ys,Inv X' [] τ H' s'/\tn i s'.heap/\(∀b∈fp,H' b=none)/\W i n τ H' ys) ?_ m0 ⟨0,_,_,[],I4,O9,λb hb=>(f3 b hb).1,w0⟩;rintro n s5 ⟨i,τ,H5,ys,I5,Kv,oN,w5⟩;obtain⟨DE,stop | ⟨go,hz,step⟩⟩:=zv i n τ H5 ys w5
    · have td:=T.done X' nE xw xK xc i [] s5 τ H5 (λ_ _=>False) I5 (Q6 oN) Kv stop.1;rw[xA]at td;refine bP td ?_;rintro r s6 ⟨rfl,I6⟩;have base:=I6.base;have os:=I6.os;have bt:=I6.bt;have qL:=I6.free;obtain⟨m,hm,_⟩:=I6.loc;rw[DD]at qL hm;rw[<- hX]at base os bt;refine Ve _ _ H5 s6 m (I3.ze (ch:=fp) os base bt I6.bare λb hb=>⟨(f3 b hb).2.2.2.1,(f3 b hb).2.1,(f3 b hb).2.2.2.2.1,(f3 b hb).2.2.2.2.2⟩) hm qL I3.sz (Nat.ne_of_gt I3.lt) (I3.Lw (aL _)) (λx c e z=>?_) (λp hp z=>?_) stop.2
      · obtain⟨v,q⟩:=I3.cell x c e;exact absurd q.lt (by rw[z];exact iJ _)
      · exact absurd (bL (I3.pin p hp).1) (by rw[z];exact iJ _)
    · have ti:=T.item X' nE xw xK xc i [] s5 τ H5 (λ_ _=>False) I5 (Q6 oN) Kv go;rw[xA]at ti;refine bP ti ?_;rintro r s6 ⟨u,rfl,h6⟩;refine bP h6 ?_;rintro _ s7 ⟨x,H7,I7,r7,y7,Q7,DF⟩;have Vf:=I7.pinned (Q6 DF) (T.obj _ _ Q7);have ga:=Ti _ s7 τ H7 x u _ Vf r7 (step x H7 y7);rw[nE,xw,xA,O_,DD]at ga;refine bP ga ?_;rintro _ s8 ⟨FQ,H8,I8,q8⟩
      have fin:∀{Pa:St}{H9:Hp}{s9:Shared}{Q8:List V},Inv X' ([]++jz fp s7.heap) Pa H9 s9->(∃m',m'<n/\W (i+1) m' Pa H9 Q8)->∃m',m'<n/\∃i τ H' ys,Inv X' [] τ H' s9/\tn i s9.heap/\(∀b∈fp,H' b=none)/\W i m' τ H' ys:=λ{Pa H9 s9 Q8} I9 w9=>by
        obtain⟨m',hm,w9⟩:=w9;refine⟨m',hm,i+1,Pa,H9,Q8,I9.gu,T.keep _ _ _ Q7 λb hb o e=>(I9.pin (b,o) (j9 _ (j9 _ (fE hb e)))).1,λb hb=>?_,w9⟩;obtain⟨o,e,d⟩:=T.obj _ _ Q7 b hb;exact(I9.pin (b,o) (j9 _ (j9 _ (fE hb e)))).2.1
      have ez:∀b s9,TP X' ([]++jz fp s7.heap) FQ (λb H3 =>
        if b=true then te FQ H3 λv H4=>H4 s2.heap.objs.size=some (.lst ys)/\∃m',m'<n/\W (i+1) m' FQ (br H4 s2.heap.objs.size (.lst (ys++[v]))) (ys++[v])
        else ∃ m', m' < n /\ W (i + 1) m' FQ H3 ys) b s9 -> (if b = true then wpAny (model X.prog X.w) X.A (eval elt (compEnvC scope (cellsFrom (hh.objs.size + 1) scope.names cl) hh.objs.size X.env)) (fun x xH =>
              wpAny (model X.prog X.w) X.A (call (.builtin "list.append") [.ref s2.heap.objs.size,x]) (λ_ z0=>∃m,m<n/\∃i τ H' ys,Inv X' [] τ H' z0/\tn i z0.heap/\(∀b∈fp,H' b=none)/\W i m τ H' ys) (λ_ _=>False) xH) (λ_ _=>False) s9
            else ∃m,m<n/\∃i τ H' ys,Inv X' [] τ H' s9/\tn i s9.heap/\(∀b∈fp,H' b=none)/\W i m τ H' ys):=by
        rintro b s9 ⟨H9,I9,q9⟩
        cases b with
        | false=>rw[a8 (by simp)]at q9⊢;exact fin I9 q9
        | true =>
          rw[aS rfl]at q9⊢;have ge:=Mo _ s9 FQ H9 _ I9 q9;rw[nE,xw,xA,O_,DD]at ge;refine bP ge ?_;rintro v Vg ⟨y,Vh,Vi,Vj,Vk,Vl⟩;have ap:=nC (X:=X') _ Vg FQ Vh (.ref s2.heap.objs.size) [y] (.ref s2.heap.objs.size) [v] (λ_ H'=>∃m',m'<n/\W (i+1) m' FQ H' (ys++[y])) Vi rfl (.cons Vj .nil) ⟨_,ys,y,rfl,rfl,Vk,hz,Vl⟩;rw[nE,xw,xA,O_]at ap;exact bP ap λ_ Y0 ⟨_,Y1,Vm,_,Vn⟩=>fin Vm Vn
      cases tc with
      | none =>
        have ei:ifs=[]:=Mn;subst ei;exact wpAny_tests_nil (ez true s8 ⟨H8,I8,q8⟩)
      | some t =>
        obtain⟨c,ei,pt⟩:=Mn;subst ei;have pt:=pt hh.objs.size {s2 with heap:=hh} (br H2 s2.heap.objs.size (.lst [])) fp;rw[hX]at pt;refine wpAny_tests_one ?_;have gt:=pt _ s8 FQ H8 _ I8 q8;rw[nE,xw,xA,O_,DD]at gt;exact bP gt λb s9 q=>ez b s9 q
  have FR:=loop _ I4 O9;exact codeAny_compStart_list FR (T.self _ 0 _ _ _ O9 FR)
end
section
variable {X:Cx} {scope:Scope} {N':List Str} {cD:List (Option Nat)} {cl:List (Str×Addr)} {tg elt aH:Expr} {ifs:List Expr} {g:TG} {tc:Option TT} {te:TE} {wi:TI} {pos:Pos}
theorem DG(hc:X.calm=true)(hi:PI X tg aH wi)(ck:jE X scope N' cD cl tg elt ifs g tc te)(hs:∀x,foldedSetIterable aH X.env x=pure x:=by intro _;rfl):PE X (.ListComp elt [⟨tg,aH,ifs,0⟩] scope pos) (vC cD wi g tc te):=by
 intro ae s σ H Q I h;rw[eval_ListComp];refine wpAny_comprehension_free (use:=none) rfl hs ck.HN.is ck.kind ck.names (bP (hi ae s σ H _ I h) λv s1 h1=>bP h1 λO0 s2 h2=>?_);obtain⟨it,fp,tn,J,H2,e,I2,T,C2,f2,hC⟩:=h2;subst e;refine qX (Q:=Q) (RR:=λacc C=>compPost (model X.prog X.w) X.A X.xe none (EP X ae σ Q) acc C) hc ck I2 T C2 f2 hC ?_;intro D C H' s' m I' hm z5 Q9 Pb Tj Q_ Ra q;refine⟨m,hm,λh' Rb=>?_⟩;exact⟨.ref D,H',I'.turned (t':=s'.toks) (λb o hb e=>Rb.extBut b o hb e) z5 (cK (cK Pb)) (.inr Q9) Q_ Ra,rfl,q⟩
theorem DH{y:Str}{py Mp:Pos}{i:Nat}(hc:X.calm=true)(hN:X.N.Nodup)(hy:X.N[i]?=some y)(hk:X.env.kindOf y=some .local)(Mq:swapsWith (.ListComp elt [⟨tg,aH,ifs,0⟩] scope pos) (some (.Name y py)) Mp.line X.env=pure true)(hi:PI X tg aH wi)(ck:jE X scope N' cD cl tg elt ifs g tc te)(hs:∀x,foldedSetIterable aH X.env x=pure x:=by intro _;rfl):PS X (.Assign [.Name y py] (.ListComp elt [⟨tg,aH,ifs,0⟩] scope pos) Mp) (λD σ H=>vC cD wi g tc te σ H λv H'=>D.nx (σ.set i (some v)) H'):=by
 intro ae s σ H D I h;rw[exec_Assign_Name_used _ _ _ _ Mq];refine au (w_ (au ?_));show wpAny _ X.A (do let _ <- comprehension (.ListComp elt [⟨tg,aH,ifs,0⟩] scope pos) scope X.env _ (newList []) false (eval aH X.env) (some (assign (.Name y py) X.env))) _ _ s;refine au (ju (wpAny_comprehension_free (use:=some (assign (.Name y py) X.env)) (Q:=λ_ s'=>SP X ae D .next s') rfl hs ck.HN.is ck.kind ck.names (bP (hi ae s σ H _ I h) λv s1 h1=>bP h1 λO0 s2 h2=>?_)) (λ_ s' hq=>aO (aO hq)) λ_ _ e=>e);obtain⟨it,fp,tn,J,H2,e,I2,T,C2,f2,hC⟩:=h2;subst e;refine qX (Q:=λv H'=>D.nx (σ.set i (some v)) H') (RR:=λacc C=>compPost (model X.prog X.w) X.A X.xe (some (assign (.Name y py) X.env)) (λ_ s'=>SP X ae D .next s') acc C) hc ck I2 T C2 f2 hC ?_;intro D' C H' s' m I' hm z5 Q9 Pb Tj Q_ Ra q;show wpAny _ X.A (assign (.Name y py) X.env (.ref D')) _ _ s';obtain⟨o,es,ep,ho,hd,Mr⟩:=hm
 have Ip:Inv X (ae++[(C,o)]) σ H' s':=I'.oC λp hp=>(fX.mp hp).elim (λz=>I'.pin p (j9 _ z)) λz=>by
  have e:p=(C,o):=by simpa using z
  subst e;exact⟨ho,z5,Pb,Tj,λv z=>by rw[hd]at z;cases z⟩
 have st:=oK (pos:=py) hN hy (.inl hk) (.inr hk) _ s' σ H' (.ref D') (.ref D') (λcI H'=>D.nx cI H') Ip rfl q;refine bP st ?_;rintro _ LY ⟨Rc,Vo,Tn,Vp⟩;have pc:=Tn.pin (C,o) (by simp);refine⟨m,⟨o,es,ep,pc.1,hd,Mr⟩,λh' Rb=>?_⟩;exact⟨Rc,Vo,Tn.gu.turned (t':=LY.toks) (λb o hb e=>Rb.extBut b o hb e) pc.2.1 Pb (.inr Q9) Q_ Ra,Vp⟩
end
end L2
end
section
namespace L2
open PySem PySem.Spec PyProof.Rows
end L2
end
section
namespace L2
open PySem PySem.Spec PyProof.Rows
end L2
end
section
namespace L2
open PySem PySem.Spec PyProof.Rows
section
variable {X:Cx}
theorem Rf{n c:Nat}(h:c∈[n+4,n+2,n+3,n,n+1]):n<=c:=by
 simp only[bS,gm,fh]at h;omega
end
end L2
end
section
namespace L2
open PySem PySem.Spec PyProof.Rows
open AutoSeq1 (wpAny_loadPart')
end L2
end
section
namespace L2
open PySem PySem.Spec PyProof.Rows
theorem g9:entryFor table "dict.update.loop" = some Builtin.«dict.update.loop»:=entryFor_of_tree (nofun)
theorem dR:plainId "dict.update.loop" = true:=⋯
theorem pf:typeLookup (.type "list") "keys" = pure none:=by rw[typeLookup_type,GC];kernel_rfl
section
variable {prog:Program} {w:World} {A:Around} {E:Value->Shared->Prop} {s:Shared}
theorem il{a:Addr}{o:Obj}{xs:Array Value}{k:Nat}{Q:Option Value->Shared->Prop}(hx:s.heap.get? a=some o) (hc:o.cls=.type "list") (qY:o.data=.seq xs k) (hd:o.dict=none) (hA:A.handled=none) (h:∀h' tk,(∀b o,s.heap.get? b=some o->h'.get? b=some o)->Q none {s with heap:=h',toks:=tk}):wpAny (model prog w) A (getAttr? (.ref a) "keys") Q E s:=by
 obtain⟨c,xI,dat,sl⟩:=o;simp only at hc qY hd;subst hc qY hd;obtain⟨hp,g,d,tk,os⟩:=s;have hT:∀yC,(⟨hp,g,d,yC,os⟩:Shared).TypeIs (.ref a) "list" := λ_=>⟨_,hx,rfl⟩;have f1:=sub_AttributeError;have f3:=Gw.lookup;have f4:=Gw.bind (.ref a);have f5:=am_list_getattr_none;unfold getAttr? getAttrBy? getAttrBy
 repeat (any_goals (first | assumption | exact hT _ | ((with_reducible show wpAny _ _ (call (Value.builtin "list.__getattribute__") _ _) _ _ _);refine call_meets Gw (hT _) am_entry_list_getattribute (F.args_list_getattribute_2 _ _) (meets_getattribute_miss_list a xs k sl "keys" _ pf ⋯ ⋯) ⟨hx,hA,λh' yC e Pc=>?_⟩) | wp_step))
 obtain⟨t',u',he⟩:=Pc.there;show wpAny _ _ (getattributeRaised _ _ _ _ _ _ _) _ _ _;unfold getattributeRaised
 repeat (any_goals (first | assumption | wp_step))
 exact h _ _ Pc.of.keeps
noncomputable def jX(kv:Nat->bA×Value):Nat->List (bA×Value)
 | 0=>[]
 | n+1=>stored (jX kv n) (kv n).1 (kv n).2
theorem jF(kv:Nat->bA×Value):∀n,(jX kv n).length<=n
 | 0=>aL _
 | n+1=>cJ (stored_length_le _ _ _) (Nat.succ_le_succ (jF kv n))
theorem DI {R : Result -> Shared -> Prop} {I : Addr} {fp wr : List Addr} {n : Nat} {P : Nat -> Value -> Prop} {St : Nat -> Heap -> Prop} (W : Walks prog w A.in1 I fp wr n P St) (d : Addr) (FN : d ∉ fp) (hn : n <= sizeLine)
    (kv:Nat->bA×Value) (h0:Heap) (HP:∀i v,P i v->∃a uk,v=.ref a/\a∉wr/\a≠d/\gn (kv i).1 uk=true/\IsTup h0 a #[uk,(kv i).2]) :
    ∀(k i:Nat)(s:Shared)(j:Int)(t:Tok),n-i=k->i<=n->St i s.heap->(∀b o,b∉wr->b≠d->h0.get? b=some o->s.heap.get? b=some o)->s.heap.DictOf (bu prog w) d (jX kv i) ->
      (∀h' tk,(∀b o,b∉wr->b≠d->s.heap.get? b=some o->h'.get? b=some o)->h'.DictOf (bu prog w) d (jX kv n)->R (.ok (.ret .none)) {s with heap:=h',toks:=tk}) ->
      codeAny (model prog w) A (.builtin "dict.update.loop" ⟨[.ref d,.ref I,.int j t,.none],[]⟩) R s:=by
  have To:d∉wr:=λh=>FN (W.sub _ h);intro k
  induction k with
  | zero =>
    intro i s j t hk hi e6 z6 hd hR;have z7:i=n:=∅;subst z7;refine codeAny_builtin g9 ?_;rw[Around.under_plainId dR _];show wpAny _ A.in1 (pyNext (.ref I) >>= _) _ _ s;refine au (W.done s _ _ e6 λh' tk hm=>?_);show wpAny _ A.in1 (Builtin.Dict.addKeywords d [] >>= _) _ _ _;refine au (aO (aO (hR h' tk (λb o hb _ e=>hm b o hb e) ?_)));obtain⟨o,es,ep,ho,ez⟩:=hd;exact⟨o,es,ep,hm d _ To ho,ez⟩
  | succ k ih =>
    intro i s j t hk hi e6 z6 hd hR;have lu:i<n:=∅;refine codeAny_builtin g9 ?_;rw[Around.under_plainId dR _];show wpAny _ A.in1 (pyNext (.ref I) >>= _) _ _ s;refine au (W.item i s _ _ lu e6 λv h' tk hP Rg hm=>?_);obtain⟨a,uk,rfl,Tp,Vq,Hs,o,ho,hc,q,qY⟩:=HP i v hP;have vf:h'.get? a=some o:=hm _ _ Tp (z6 _ _ Tp Vq ho)
    have G0:h'.DictOf (bu prog w) d (jX kv i):=by
      obtain⟨o,es,ep,ho,ez⟩:=hd;exact⟨o,es,ep,hm d _ To ho,ez⟩
    have hT:∀yC,Shared.TypeIs {s with heap:=h',toks:=yC} (.ref a) "tuple" := λ_=>⟨o,vf,hc⟩;refine au (kX (au (wpAny_tryCatch ?_)));unfold Builtin.Dict.pairItems;refine au (y8 (hT _) ?_);have hz:(Value.type "tuple" == Value.type "list" || Value.type "tuple" == Value.type "tuple")=true:=⋯;rw[aS hz];refine au (wpAny_seqItems (s:={s with heap:=h',toks:=tk}) vf qY (aO ?_));show wpAny _ A.in1 (holding [uk,(kv i).2] (dictSet d uk (kv i).2)) _ _ _;refine kX (wpAny_dictSet_pairs (knd:=bu prog w) (k:=(kv i).1) Hs G0 (λh2 hd2 Rh=>?_) (cJ (jF kv i) ∅));refine aO ⟨plainId_quiet dR _,ih (i+1) _ _ _ ∅ lu (W.frame _ _ _ Rg λb hb o e=>?_) (λb o hb z8 e=>?_) hd2 λh3 Vr Vs Ms=>?_⟩
    · show h2.get? b=some o;rw[Rh.2 b (λz=>FN (by rw[<- z];exact hb))];exact e
    · show h2.get? b=some o;rw[Rh.2 b z8];exact hm _ _ hb (z6 _ _ hb z8 e)
    · refine hR h3 Vr (λb o hb z8 e=>Vs b o hb z8 ?_) Ms;show h2.get? b=some o;rw[Rh.2 b z8];exact hm _ _ hb e
theorem DJ{l:Addr}{aC:List Value}{Q:Value->Shared->Prop}(hA:A.handled=none)(hl:PlainL s.heap l aC.toArray)(hn:aC.length<=sizeLine)(kv:Nat->bA×Value)(HP:∀i v,aC[i]?=some v->∃a uk,v=.ref a/\gn (kv i).1 uk=true/\IsTup s.heap a #[uk,(kv i).2])(h:∀h' tk,(∀b o,s.heap.get? b=some o->h'.get? b=some o)->h'.DictOf (bu prog w) s.heap.objs.size (jX kv aC.length)->Q (.ref s.heap.objs.size) {s with heap:=h',toks:=tk}):wpAny (model prog w) A (call (.type "dict") [.ref l]) Q E s:=by
 refine callType_codes (Q₁:=λobj bj=>obj=.ref s.heap.objs.size/\bj={s with heap:=s.heap.push {cls:=.type "dict",data:=.dict #[]}}) F.kt_called_dict (F.kt_typeCall_dict_1 _) F.entry_dict_init (kt_code_dict_new _ ⟨rfl,rfl⟩) ?_;rintro obj bj ⟨rfl,rfl⟩;have jD:(s.heap.push {cls:=.type "dict",data:=.dict #[]}).DictOf (bu prog w) s.heap.objs.size []:=Heap.DictOf.new s.heap;obtain⟨o,m,ho,hc,Vt,qY⟩:=hl;have Ri:(s.heap.push {cls:=.type "dict",data:=.dict #[]}).get? l=some o:=cT _ ho;have hT:Shared.TypeIs {s with heap:=s.heap.push {cls:=.type "dict",data:=.dict #[]}} (.ref l) "list" := ⟨o,Ri,hc⟩;have lu:=bL ho;refine⟨jD.typeIs,F.args_dict_init_2 _ _,?_⟩;unfold Builtin.«dict.__init__»;refine au ?_;unfold Builtin.Dict.selfAndRest;refine au (wpAny_notOrdered_dict jD.typeIs ?_);show wpAny _ _ (pure (s.heap.objs.size,[Value.ref l])) _ _ _;refine aO ?_;show wpAny _ _ (Builtin.Dict.updateFrom "dict.__init__" s.heap.objs.size (.ref l) [] .none) _ _ _;unfold Builtin.Dict.updateFrom;refine au (y8 hT ?_);rw[aS ⋯];refine au (il (s:={s with heap:=s.heap.push {cls:=.type "dict",data:=.dict #[]}}) Ri hc qY Vt (by simp[hA]) λh1 Vu k1=>?_);rw[aS (show(none:Option Value).isNone=true from rfl)];have zK:h1.get? l=some o:=k1 _ _ Ri
 have hle:s.heap.objs.size<h1.objs.size:=by
  obtain⟨o',es,ep,he,_⟩:=jD;exact bL (k1 _ _ he)
 refine au (wpAny_rule (au (wpAny_pyIter_list (s:={s with heap:=h1,toks:=Vu}) ⟨o,zK,hc,m,qY⟩ ?_)));have Rj:=bL zK;have z7:l≠h1.objs.size:=ej Rj;have WW:=Walks.list (prog:=prog) (w:=w) (A:=A.in1.in1) (by simp[hA]) h1.objs.size l z7 aC.toArray;simp only[cO,List.getElem?_toArray]at WW;refine aO ⟨plainId_quiet dR _,?_⟩;have kp:∀b u,s.heap.get? b=some u->(h1.push {cls:=.type "list_iterator",data:=.fields #[.ref l,.int 0 0]}).get? b=some u:=λb u e=>cT _ (k1 _ _ (cT _ e));refine DI WW s.heap.objs.size ?_ hn kv s.heap ?_ (aC.length-0) 0 _ _ _ rfl (xf _) ⟨⟨_,kT _ rfl,rfl,rfl⟩,⟨o,cT _ zK,hc,m,qY⟩⟩ (λb o' _ _ e=>kp b o' e) ?_ ?_
 ·simp only[bS,List.not_mem_nil,fh,not_or];exact⟨ej hle,λz=>absurd lu (by rw[z];exact iJ _)⟩
 ·intro i v hv;obtain⟨a,uk,e,hk,ht⟩:=HP i v hv;have Kz:=ht.lt;refine⟨a,uk,e,?_,ej Kz,hk,ht⟩;simp only[bS,List.not_mem_nil,fh];exact ej (y6 Kz hle)
 ·obtain⟨o',es,ep,he,ez⟩:=jD;exact⟨o',es,ep,cT _ (k1 _ _ he),ez⟩
 ·intro h' tk hk hd;refine⟨rfl,h h' tk (λb u e=>?_) hd⟩;have hb:=bL e;exact hk b u (by simp only[bS,List.not_mem_nil,fh];exact ej (y6 hb hle)) (ej hb) (kp b u e)
end
end L2
end
section
namespace L2
open PySem PySem.Spec PyProof.Rows
end L2
end
section
namespace L2
open PySem PySem.Spec PyProof.Rows
theorem xJ(a b:Int):Builtin.Range.rangeSize a b (-1)=if b<a then a-b else 0:=by
 unfold Builtin.Range.rangeSize;rw[a8 (by decide),show -(-1:Int)=1 from rfl,Int.ediv_one];by_cases h:b<a
 ·rw[aS h,aS h];omega
 ·rw[a8 h,a8 h]
theorem small_down{a b:Int}(h1:-(2 ^ 62)<=a)(h2:a<2 ^ 62)(h3:-(2 ^ 62)<=b)(h4:b<2 ^ 62):Builtin.Range.small a b (-1)=true:=by
 unfold Builtin.Range.small;rw[xJ];simp only[Builtin.Range.rangeFitsLong,aK,w6,om,gR,show ¬(-1:Int)>0 by decide,ou];split<;>omega
end L2
end
section
namespace L2
open PySem PySem.Spec PyProof.Rows
section
variable {X:Cx}
theorem z9:gY X (compareOp .Is) (λx y H Q=>∃b c,x=.bl b/\y=.bl c/\Q (.bl (b==c)) H):=by
 intro ae s σ H x y v u Q I rx ry h;obtain⟨b,c,rfl,rfl,q⟩:=h;cases rx;cases ry;refine wpAny_is_plain rfl (k_ I q ?_);cases b<;>cases c<;>rfl
theorem vD:gY X (compareOp .IsNot) (λx y H Q=>∃b c,x=.bl b/\y=.bl c/\Q (.bl (!(b==c))) H):=by
 intro ae s σ H x y v u Q I rx ry h;obtain⟨b,c,rfl,rfl,q⟩:=h;cases rx;cases ry;refine wpAny_isNot_plain rfl (k_ I q ?_);cases b<;>cases c<;>rfl
end
end L2
end
section
namespace L2
open PySem PySem.Spec PyProof.Rows
end L2
end
section
namespace L2
open PySem PySem.Spec PyProof.Rows
end L2
end
section
namespace L2
open PySem PySem.Spec PyProof.Rows
section
variable {X:Cx} {tg:Expr}
noncomputable def insI(i:Int):List Int->List Int
 | []=>[i]
 | j::js=>if i<=j then i::j::js else j::insI i js
def Mt:List Int->List Int
 | []=>[]
 | i::is=>insI i (Mt is)
theorem z_{i:Int}:∀{is:List Int},(insI i is).Perm (i::is)
 | []=>List.Perm.refl _
 | j::js=>by
  unfold insI;split
  ·exact List.Perm.refl _
  ·exact((z_ (i:=i) (is:=js)).cons j).trans (List.Perm.swap i j js)
end
end L2
end
section
namespace L2
open PySem PySem.Spec PyProof.Rows
def yD(xs:Array Nat):Prop:=xs.toList.Pairwise (· < ·)
structure Tb (t:SetTable):Prop where
 Vv:yD t.place
 Rk:t.dummies=#[]
theorem yD.lt{xs:Array Nat}(h:yD xs){i j x y:Nat}(hi:xs[i]?=some x)(hj:xs[j]?=some y)(l:i<j):x<y:=by
 have a:xs.toList[i]?=some x:=by rw[Ct];exact hi
 have b:xs.toList[j]?=some y:=by rw[Ct];exact hj
 obtain⟨h1,e1⟩:=bV.mp a;obtain⟨h2,e2⟩:=bV.mp b;rw[<- e1,<- e2];exact Gs.mp h i j h1 h2 l
theorem ly{xs:Array Nat}(r:yD xs)(j:Nat):∀(f lo hi:Nat),hi-lo<=f->lo<=hi->hi<=xs.size->(∀i x,i<lo->xs[i]?=some x->x<j)->(∀i x,hi<=i->xs[i]?=some x->j<=x)->(SetTable.below.go xs j f lo hi<=xs.size/\(∀i x,i<SetTable.below.go xs j f lo hi->xs[i]?=some x->x<j)/\∀i x,SetTable.below.go xs j f lo hi<=i->xs[i]?=some x->j<=x)
 | 0,lo,hi,hf,hl,hs,a,b=>by
  have:lo=hi:=∅;subst this;exact⟨hs,a,b⟩
 | f+1,lo,hi,hf,hl,hs,a,b=>by
  unfold SetTable.below.go;split
  ·rename_i lt
   dsimp only;have hm:(lo+hi) / 2<xs.size:=∅;have hx:xs[(lo+hi) / 2]?=some xs[(lo+hi) / 2]:=Array.getElem?_eq_getElem hm;have hd:xs.getD ((lo+hi) / 2) j=xs[(lo+hi) / 2]:=by simp[Array.getD,hm]
   by_cases c:xs.getD ((lo+hi) / 2) j<j
   ·simp only[aS c];rw[hd]at c;refine ly r j f ((lo+hi) / 2+1) hi ∅ ∅ hs (λi x h e=>?_) b;rcases Nat.lt_or_ge i ((lo+hi) / 2)with q | q
    ·exact y6 (r.lt e hx q) c
    ·have:i=(lo+hi) / 2:=∅;subst this;rw[hx]at e;cases e;exact c
   ·simp only[a8 c];rw[hd]at c;refine ly r j f lo ((lo+hi) / 2) ∅ ∅ ∅ a λi x h e=>?_;rcases Nat.lt_or_ge ((lo+hi) / 2) i with q | q
    ·exact mO (Nat.lt_of_le_of_lt (qH.mp c) (r.lt hx e q))
    ·have:i=(lo+hi) / 2:=∅;subst this;rw[hx]at e;cases e;exact qH.mp c
  ·rename_i lt
   have:lo=hi:=∅;subst this;exact⟨hs,a,b⟩
theorem Aa{xs:Array Nat}(r:yD xs)(j:Nat):SetTable.below xs j<=xs.size/\(∀i x,i<SetTable.below xs j->xs[i]?=some x->x<j)/\∀i x,SetTable.below xs j<=i->xs[i]?=some x->j<=x :=
 ly r j xs.size 0 xs.size ∅ (xf _) (aL _) (λi x h=>absurd h (Nat.not_lt_zero _)) λi x h e=>absurd (wQ.mp e).1 ∅
theorem yD.insert{xs:Array Nat}(r:yD xs){j:Nat}(n:xs[SetTable.below xs j]?≠some j):yD (SetTable.insertAt xs (SetTable.below xs j) j):=by
 obtain⟨h1,h2,h3⟩:=Aa r j;unfold yD;rw[SetTable.toList_insertAt]
 have ta:∀x∈xs.toList.take (SetTable.below xs j),x<j:=λx hx=>by
  obtain⟨i,hi,e⟩:=Cy.mp hx;rw[iI]at hi;rw[List.getElem_take]at e;exact h2 i x ∅ (by rw[<- Ct,cE ∅,e])
 have tb:∀x∈xs.toList.drop (SetTable.below xs j),j<x:=λx hx=>by
  obtain⟨i,hi,e⟩:=Cy.mp hx;rw[CL]at hi;rw[List.getElem_drop]at e;have ex:xs[SetTable.below xs j+i]?=some x:=by rw[<- Ct,cE ∅,e]
  have le:=h3 _ x (Nat.le_add_right _ _) ex;rcases Nat.lt_or_ge j x with q | q
  ·exact q
  ·have:x=j:=∅;subst this
   cases i with
   | zero=>exact absurd ex n
   | succ i =>
    have hb:SetTable.below xs x<xs.size:=by have:=(wQ.mp ex).1;omega
    have eb:=Array.getElem?_eq_getElem hb;exact absurd (r.lt eb ex ∅) (by have:=h3 _ _ (aL _) eb;omega)
 refine List.pairwise_append.mpr ⟨List.Pairwise.sublist (List.take_sublist _ _) r,CF.mpr ⟨tb,List.Pairwise.sublist (List.drop_sublist _ _) r⟩,λa ha b hb=>?_⟩;rcases bS.mp hb with rfl | hb
 ·exact ta a ha
 ·exact y6 (ta a ha) (tb b hb)
theorem Tb.slot{t:SetTable}(h:Tb t){j:Nat}:t.slot j=.empty/\t.place[SetTable.below t.place j]?≠some j\/∃i,t.slot j=.live i:=by
 have hz:SetTable.has t.dummies j=false:=by
  rw[h.Rk];unfold SetTable.has;simp
 unfold SetTable.slot;dsimp only;split
 ·exact .inr ⟨_,rfl⟩
 ·rename_i c
  rw[hz];exact .inl ⟨rfl,λe=>c (by rw[e];exact qD _)⟩
theorem qZ{t:SetTable}(ti:Tb t){h:Int}{j:Nat}{d:Option Nat}:∀(f:Nat)(p:SetTable.Probe),p.dummy=none->SetTable.probe.go t (λ_=>h+1) h f p=some (.empty j d)->d=none/\t.place[SetTable.below t.place j]?≠some j
 | 0,p,hp,e=>by unfold SetTable.probe.go at e;cases e
 | f+1,p,hp,e=>by
  unfold SetTable.probe.go at e
  have Vw:(t.advance p).dummy=none:=by
   unfold SetTable.advance;split
   ·exact hp
   ·exact hp
  rcases ti.slot (j:=p.j)with⟨z,q⟩|⟨i,z⟩
  ·rw[z]at e;dsimp only at e;cases e;exact⟨hp,q⟩
  ·rw[z]at e;dsimp only at e;have hb:(h+1==h)=false:=by rw[mL];omega
   rw[hb]at e;exact qZ ti f _ Vw e
theorem Tb.free{t:SetTable}(ti:Tb t){h:Int}{sl:Nat}{b:Bool}(e:t.freeSlot h=some (sl,b)):t.place[SetTable.below t.place sl]?≠some sl:=by
 unfold SetTable.freeSlot at e;split at e
 ·rename_i j d q
  obtain⟨rfl,n⟩:=qZ ti _ _ rfl q;cases e;exact n
 ·cases e
theorem xM(n:Nat):yD (Array.range n):=by
 unfold yD;rw[Array.toList_range];exact List.pairwise_lt_range
theorem iS(t:SetTable)(n:Nat):Tb (t.standIn n):=⟨xM n,rfl⟩
theorem HQ{t:SetTable}(ti:Tb t)(es:Array (Int×Value))(h:Int)(x:Value):Tb (layNew t es h x).2.1/\(layNew t es h x).2.1.led=t.led:=by
 unfold layNew;split
 ·rename_i sl b e
  dsimp only;have hz:SetTable.has t.dummies sl=false:=by rw[ti.Rk];unfold SetTable.has;simp
  have tp:Tb (t.put sl).1/\(t.put sl).1.led=t.led:=by
   unfold SetTable.put;dsimp only;refine⟨⟨ti.Vv.insert (ti.free e),?_⟩,rfl⟩;dsimp only;rw[hz];exact ti.Rk
  unfold SetTable.orStandIn;split
  ·exact tp
  ·exact⟨iS _ _,tp.2⟩
 ·exact⟨iS _ _,rfl⟩
theorem Ab(t:SetTable)(es:Array (Int×Value))(n:Nat):Tb (relayAll t es n).2.1/\(relayAll t es n).2.1.led=t.led:=by
 unfold relayAll;split
 ·rename_i t' order e
  dsimp only;split
  ·unfold SetTable.relaid SetTable.laid at e
   cases q:SetTable.layClean (SetTable.sizeAbove n-1) (es.map (·.1))with
   | none=>rw[q]at e;cases e
   | some ow =>
    rw[q]at e;cases e;refine⟨⟨?_,rfl⟩,rfl⟩;unfold yD;dsimp only;rw[List.map_filterMap];refine List.Pairwise.filterMap _ (λa a' lt b hb b' DB=>?_) List.pairwise_lt_range
    cases qa:ow.getD a none with
    | none=>rw[qa]at hb;cases hb
    | some _ =>
     cases qb:ow.getD a' none with
     | none=>rw[qb]at DB;cases DB
     | some _ =>
      rw[qa]at hb;rw[qb]at DB;cases hb;cases DB;exact lt
  ·exact⟨iS _ _,rfl⟩
 ·exact⟨iS _ _,rfl⟩
noncomputable def jY(prog:Program)(w:World)(h:Heap)(a:Addr)(led:Bool)(L:List Int):Prop :=
 ∃o es ep t,h.get? a=some o/\o.ExactSet/\o.data=.set es ep t/\ElemsOf (intKind prog w) es.toList/\(∀k,k∈L↔∃e∈es.toList,(intKind prog w).is k e.2=true)/\es.size<scanBound/\t.fits es.size=true/\es.size=L.length/\Tb t/\t.led=led
noncomputable def HR(L:List Int)(k:Int):List Int:=if k∈L then L else L++[k]
section
variable {prog:Program} {w:World} {A:Around} {E:Value->Shared->Prop} {s:Shared} {a:Addr} {led:Bool} {L:List Int}
theorem vE{h:Heap}{o:Obj}{es fZ:Array (Int×Value)}{ep:Nat}{t t':SetTable}(ho:h.get? a=some o)(HS:o.ExactSet)(hd:o.data=.set es ep t)(x1:ElemsOf (intKind prog w) fZ.toList)(x2:∀k,k∈L↔∃e∈fZ.toList,(intKind prog w).is k e.2=true)(x3:fZ.size<scanBound)(x4:t'.fits fZ.size=true)(x5:fZ.size=L.length)(x6:Tb t')(x7:t'.led=led):∃o',(h.update a (Obj.putSet fZ t')).get? a=some o'/\o'.ExactSet/\o'.data=.set fZ (ep+1) t'/\jY prog w (h.update a (Obj.putSet fZ t')) a led L:=by
 have hg:=yL (Obj.putSet fZ t') ho (by rw[putSet_of fZ t' hd];rfl);rw[putSet_of fZ t' hd]at hg;exact⟨_,hg,HS,rfl,_,fZ,ep+1,t',hg,HS,rfl,x1,x2,x3,x4,x5,x6,x7⟩
theorem q_{g:Bool->Sem Unit}(hg:∀(b:Bool)(bj:Shared)(Q:Unit->Shared->Prop),Q () bj->wpAny (model prog w) A (g b) Q E bj){o:Obj}{es fZ:Array (Int×Value)}{ep:Nat}{t t':SetTable}{wd:Bool}{R:Option Bool->Shared->Prop}(ho:s.heap.get? a=some o)(HS:o.ExactSet)(hd:o.data=.set es ep t)(x1:ElemsOf (intKind prog w) fZ.toList)(x2:∀k,k∈L↔∃e∈fZ.toList,(intKind prog w).is k e.2=true)(x3:fZ.size<scanBound)(x4:t'.fits fZ.size=true)(x5:fZ.size=L.length)(x6:Tb t')(x7:t'.led=led)(h:∀h',Heap.SameBut a s.heap h'->jY prog w h' a led L->R (some true) {s with heap:=h'}):wpAny (model prog w) A (storeSet a fZ t' >>= λ_=>if (!wd&&t'.tooFull)=true then (g (relayAll t' fZ (SetTable.grown fZ.size)).2.2 >>= λ_=>storeSet a (relayAll t' fZ (SetTable.grown fZ.size)).1 (relayAll t' fZ (SetTable.grown fZ.size)).2.1 >>= λ_=>pure (some true)) else pure (some true)) R E s:=by
 obtain⟨o1,e1,z1,d1,i1⟩:=vE (prog:=prog) (w:=w) ho HS hd x1 x2 x3 x4 x5 x6 x7;refine au (wpAny_storeSet_of ho hd ?_ (fits_of_scanBound x3));have b1:=Heap.SameBut.update s.heap a (Obj.putSet fZ t');split
 ·have p:=relayAll_perm t' fZ (SetTable.grown fZ.size);have sz:(relayAll t' fZ (SetTable.grown fZ.size)).1.size=fZ.size:=by rw[<- sZ,p.length_eq,sZ]
  have ti:=Ab t' fZ (SetTable.grown fZ.size);obtain⟨_,_,_,_,i2⟩:=vE (prog:=prog) (w:=w) (L:=L) (led:=led) e1 z1 d1 (x1.perm p) (λk=>(x2 k).trans ⟨λ⟨e,he,q⟩=>⟨e,p.mem_iff.mpr he,q⟩,λ⟨e,he,q⟩=>⟨e,p.mem_iff.mp he,q⟩⟩) (by rw[sz];exact x3) (relayAll_fits _ _ _) (by rw[sz];exact x5) ti.1 (ti.2.trans x7);refine au (hg _ _ _ (au (wpAny_storeSet_of e1 d1 (aO (h _ (b1.trans (Heap.SameBut.update _ a _)) i2)) (fits_of_scanBound (by rw[sz];exact x3)))))
 ·exact aO (h _ b1 i1)
theorem Pd{k:Int}{u:Tok}{Q:Bool->Shared->Prop}(hS:jY prog w s.heap a led L)(hr:L.length+1<scanBound)(h:∀b h',Heap.SameBut a s.heap h'->jY prog w h' a led (HR L k)->Q b {s with heap:=h'}):wpAny (model prog w) A (setAddHashed a (.int k u) ((intKind prog w).hash k)) Q E s:=by
 obtain⟨o,es,ep,t,ho,HS,hd,x1,x2,x3,x4,x5,x6,x7⟩:=id hS;have hk:(intKind prog w).is k (.int k u)=true:=intKind_is _ _ _ _;unfold setAddHashed setAddHashedIn;refine kX (au (wpAny_setState_of ho hd x4 ?_));dsimp only;rw[byScan_of (knd:=intKind prog w) rfl x3 x1,aS rfl];unfold setAddByScan;refine au (au (wpAny_rule (au (wpAny_setScan_of (knd:=intKind prog w) hk ho hd x4 x1 ?_))))
 cases q:es.toList.findIdx? (λe=>(intKind prog w).is k e.2)with
 | some j =>
  obtain⟨hj,pj,_⟩:=K0.mp q;have Ks:k∈L:=(x2 k).mpr ⟨_,qE hj,pj⟩;dsimp only;refine aO (aO ?_);have:=h false s.heap (Heap.SameBut.refl a s.heap) (by unfold HR;rw[aS Ks];exact hS);exact this
 | none =>
  have Rl:k∉L:=λz=>by
   obtain⟨e,he,p⟩:=(x2 k).mp z;have:=List.findIdx?_eq_none_iff.mp q e he;rw[p]at this;cases this
  dsimp only;have pm:=layNew_perm t es ((intKind prog w).hash k) (.int k u);have ft:=layNew_fits t es ((intKind prog w).hash k) (.int k u);have ti:=HQ x6 es ((intKind prog w).hash k) (.int k u);generalize layNew t es ((intKind prog w).hash k) (.int k u)=N at pm ft ti⊢;obtain⟨Mu,t1,wd,gv⟩:=N;dsimp only at pm ft ti⊢;rw[Array.toList_push]at pm;have y1:ElemsOf (intKind prog w) Mu.toList:=(x1.push hk rfl).perm pm;have sz:Mu.size=es.size+1:=by rw[<- sZ,pm.length_eq,fB,sZ];rfl
  have y2:∀k',k'∈L++[k]↔∃e∈Mu.toList,(intKind prog w).is k' e.2=true:=λk'=>by
   rw[fX,GG,x2 k'];constructor
   ·rintro(⟨e,he,p⟩ | rfl)
    ·exact⟨e,pm.mem_iff.mpr (Cv _ he),p⟩
    ·exact⟨_,pm.mem_iff.mpr (j9 _ (GG.mpr rfl)),hk⟩
   ·rintro⟨e,he,p⟩;rcases fX.mp (pm.mem_iff.mp he)with he | he
    ·exact .inl ⟨e,he,p⟩
    ·rw[GG]at he;subst he;exact .inr ((intKind prog w).inj _ k' k p hk)
  have fin:∀h',Heap.SameBut a s.heap h'->jY prog w h' a led (L++[k])->Q true {s with heap:=h'}:=λh' b i=>h true h' b (by unfold HR;rw[a8 Rl];exact i)
  have gw:∀(b:Bool)(bj:Shared)(Q':Unit->Shared->Prop),Q' () bj->wpAny (model prog w) A (match b with | true=>rule "set.scan.the-table-gave-way" | false=>pure ()) Q' E bj:=λb bj Q' z=>by
   cases b
   ·exact aO z
   ·exact wpAny_rule z
  have y5:Mu.size=(L++[k]).length:=by rw[sz,x5,fB];rfl
  refine au (gw _ _ _ ?_);split
  ·rw[hashByValue_scannable 8 (x:=.int k u) rfl];refine au (aO ?_);show wpAny _ _ (storeSet a Mu t1 >>= _) _ _ _;exact q_ (L:=L++[k]) (led:=led) (λb bj Q' z=>by cases b<;>first | exact aO z | exact wpAny_rule z) ho HS hd y1 y2 ∅ ft y5 ti.1 (ti.2.trans x7) λh' b i=>aO (fin h' b i)
  ·refine au (aO ?_);exact q_ (L:=L++[k]) (led:=led) (λb bj Q' z=>by cases b<;>first | exact aO z | exact wpAny_rule z) ho HS hd y1 y2 ∅ ft y5 ti.1 (ti.2.trans x7) λh' b i=>aO (fin h' b i)
end
end L2
end
section
namespace L2
open PySem PySem.Spec PyProof.Rows
theorem jY.keep{prog:Program}{w:World}{h h':Heap}{a:Addr}{led:Bool}{L:List Int}(x:jY prog w h a led L)(k:∀o,h.get? a=some o->h'.get? a=some o):jY prog w h' a led L:=by
 obtain⟨o,es,ep,t,ho,r⟩:=x;exact⟨o,es,ep,t,k o ho,r⟩
end L2
end
section
namespace L2
open PySem PySem.Spec PyProof.Rows
end L2
end
section
namespace L2
open PySem PySem.Spec PyProof.Rows
end L2
end
section
namespace L2
open PySem PySem.Spec PyProof.Rows
end L2
end
section
namespace L2
open PySem PySem.Spec PyProof.Rows
open Builtin Builtin.ObjectAttr
structure eR (h:Heap) (C D:Addr) (mN mD:Str->Option Value):Prop where
 cls:∃nm q N bs sn sub ab nF dd k0 k1 k2 k3 k5,h.get? C=some (excClassObj nm q C N bs (.ref D::VE) true sn sub ab nF dd k0 k1 k2 k3 k5 "ValueError.__new__")/\h.Ns N mN
 par:∃c0 dd cd sl,h.get? D=some {cls:=c0,dict:=dd,data:=.cls cd,slots:=sl}/\h.Ns cd.ns mD
 Y2:mD "__init__" = none
theorem eR.keeps{h h':Heap}{C D:Addr}{mN mD:Str->Option Value}(X:eR h C D mN mD)(k:∀b o,h.get? b=some o->h'.get? b=some o):eR h' C D mN mD:=by
 obtain⟨⟨nm,q,N,bs,sn,sub,ab,nF,dd,k0,k1,k2,k3,k5,hC,hN⟩,⟨c0,de,cd,sl,hD,hM⟩,n⟩:=X;exact⟨⟨nm,q,N,bs,sn,sub,ab,nF,dd,k0,k1,k2,k3,k5,k _ _ hC,hN.keeps k⟩,⟨c0,de,cd,sl,k _ _ hD,hM.keeps k⟩,n⟩
theorem eR.tail{h:Heap}{C D:Addr}{mN mD:Str->Option Value}(X:eR h C D mN mD):OwnTail h VE (.ref D::VE):=by
 obtain⟨_,⟨c0,de,cd,sl,hD,hM⟩,n⟩:=X;exact .own hD hM n .base
section
variable {M:Model} {prog:Program} {w:World} {A:Around} {E:Value->Shared->Prop} {h:Heap} {g:Array GenState} {d:Drawn} {t:Nat} {os:OsState} {C D:Addr} {mN mD mA:Str->Option Value}
theorem fH{name:Str}{y:Option Value}{Q:Option Value->Shared->Prop}(X:eR h C D mN mD) (hB:typeLookup (.type "ValueError") name=pure y) (hq:Q ((mN name).or ((mD name).or y)) ⟨h,g,d,t,os⟩):wpAny M A (typeLookup (.ref C) name) Q E ⟨h,g,d,t,os⟩:=by
 obtain⟨⟨nm,q,N,bs,sn,sub,ab,nF,dd,k0,k1,k2,k3,k5,hC,hN⟩,⟨c0,de,cd,sl,hD,hM⟩,n⟩:=X;have hV:lookupAlong VE name=pure y:=by rw[typeLookup_eq,yM.mroIs]at hB;exact hB
 rw[typeLookup_eq];refine au (wpAny_mroOf_exc hC ?_);rw[lookupAlong_cons];refine au (wpAny_classOwn_exc hC hN ?_)
 cases e1:mN name with
 | some v=>rw[e1]at hq;exact aO hq
 | none =>
  rw[e1]at hq;show wpAny M A (lookupAlong (.ref D::VE) name) Q E _;rw[lookupAlong_cons];refine au (wpAny_classOwn_cls hD hM ?_)
  cases e2:mD name with
  | some v=>rw[e2]at hq;exact aO hq
  | none=>rw[e2]at hq;show wpAny M A (lookupAlong VE name) Q E _;rw[hV];exact aO hq
theorem nG{b:Value}{Q:Bool->Shared->Prop}(X:eR h C D mN mD)(hq:Q ((Value.ref C::.ref D::VE).contains b) ⟨h,g,d,t,os⟩):wpAny M A (isSubtype (.ref C) b) Q E ⟨h,g,d,t,os⟩:=by
 obtain⟨⟨nm,q,N,bs,sn,sub,ab,nF,dd,k0,k1,k2,k3,k5,hC,hN⟩,_⟩:=X;exact wpAny_isSubtype_exc hC hq
theorem rf{vs:List Value}{fI:Addr}{oI:Obj}{Q:Fin->Shared->Prop}(X:eR h C D mN mD) (hi:mN "__init__" = some (.ref fI)) (hf:h.get? fI=some oI) (hc:oI.cls=.type "function") (hq:∀h' e,Heap.MadeExcOf h h' e (.ref C) vs->h.objs.size<=e->wpAny (model prog w) A (call (.ref fI) (.ref e::vs)) (λr s'=>r=.none/\Q (.done (.ret (.ref e))) s') E ⟨h',g,d,t,os⟩) (hl:vs.length<=sizeLine):wpAny (model prog w) A (Builtin.«type.__call__» ⟨.ref C::vs,[]⟩) Q E ⟨h,g,d,t,os⟩:=by
 have X0:=X;have T:=X.tail;obtain⟨⟨nm,q,N,bs,sn,sub,ab,nF,dd,k0,k1,k2,k3,k5,hC,hN⟩,_,_⟩:=X
 repeat (first | with_reducible refine gk hC ?_ | with_reducible refine wpAny_madeBy_exc hC ?_ | wp_step)
 refine codeAny_call_builtin_code (Code.quiet_builtin _ yM.quiet) (wpAny_check_new_subT yM T hC ?_);refine codeAny_exc_new_subT yM T hC ?_ hl;show wpAny _ _ _ _ _ _;generalize ht:({cls:=.type "tuple",data:=.seq vs.toArray}:Obj)=ot;generalize hx:({cls:=.ref C,data:=.fields #[.ref h.objs.size,.none,.none,.none,.bool false,.none]}:Obj)=ox;have kp:∀b o,h.get? b=some o->((h.push ot).push ox).get? b=some o:=λb o z=>cT _ (cT _ z);have ge:((h.push ot).push ox).get? (h.objs.size+1)=some ox:=by subst ht hx;heap_get
 have gt:((h.push ot).push ox).get? h.objs.size=some ot:=cT _ (Heap.get?_push_at rfl (by subst ht;rfl));have X1:=X0.keeps kp;have cc:ox.cls=.ref C:=by subst hx;rfl
 have hm:Heap.MadeExcOf h ((h.push ot).push ox) (h.objs.size+1) (.ref C) vs:=⟨kp,GF (Nat.le_succ _),h.objs.size,by rw[ge];subst hx;rfl,GF (aL _),by rw[gt];subst ht;rfl⟩;have ct:(Value.ref C::.ref D::VE).contains (.ref C)=true:=by simp
 unfold isInstance
 repeat (first | (with_reducible refine gk ge ?_;rw[cc]) | (with_reducible refine nG X1 ?_;rw[ct]) | wp_step)
 show wpAny _ _ (typeLookup (.ref C) _) _ _ _;refine fH X1 yM.init.lookup ?_;rw[hi];refine kX (au ?_);unfold bindSpecial;refine au (y8 (T := "function") ⟨_,kp _ _ hf,hc⟩ ?_);rw[aS (by decide)];refine aO (au (ju (hq _ _ hm (Nat.le_succ _)) (λr s' hr=>?_) λ_ _ z=>z));obtain⟨rfl,hQ⟩:=hr
 wp_walk
 exact hQ
theorem Ac{vs:List Value}{fI:Addr}{oI:Obj}{Q:Value->Shared->Prop}(X:eR h C D mN mD) (hi:mN "__init__" = some (.ref fI)) (hf:h.get? fI=some oI) (hc:oI.cls=.type "function") (hq:∀h' e,Heap.MadeExcOf h h' e (.ref C) vs->h.objs.size<=e->wpAny (model prog w) (A.under (.builtin "type.__call__" ⟨.ref C::vs,[]⟩)) (call (.ref fI) (.ref e::vs)) (λr s'=>r=.none/\Q (.ref e) s') E ⟨h',g,d,t,os⟩) (hl:vs.length<=sizeLine):wpAny (model prog w) A (call (.ref C) vs) Q E ⟨h,g,d,t,os⟩:=by
 have X0:=X;obtain⟨⟨nm,q,N,bs,sn,sub,ab,nF,dd,k0,k1,k2,k3,k5,hC,hN⟩,_,_⟩:=X;have f1:=tc_lookup;have f2:=tc_bind (.ref C);have hT:(⟨h,g,d,t,os⟩:Shared).TypeIs (.ref C) "type" := ⟨_,hC,rfl⟩;refine wpAny_call (codeAny_of_tree ?_);show wpAny _ _ (callAny (.ref C) _) _ _ _
 repeat (any_goals (first | assumption | with_reducible refine gk hC ?_ | wp_step))
 refine⟨rfl,codeAny_call_builtin_at (Code.quiet_builtin _ ⋯) entry_typeCall (wpAny_check_type_call_sub hC (rf X0 hi hf hc (λh' e hm l=>hq h' e hm l) hl))⟩
end
end L2
end
section
namespace L2
open PySem PySem.Spec PyProof.Rows
open Builtin Builtin.ObjectAttr
section
variable {M:Model} {prog:Program} {w:World} {A:Around} {E:Value->Shared->Prop} {h:Heap} {g:Array GenState} {d:Drawn} {t:Nat} {os:OsState} {C D:Addr} {mN mD mA:Str->Option Value} {env:Env}
theorem rg{s:Shared}{x:Sem Value}{Q:Flow->Shared->Prop}(hh:A.handled=none)(hx:wpAny M A x (λv s1=>∃e oe vs,v=.ref e/\(∃mN mD,eR s1.heap C D mN mD)/\s1.heap.get? e=some oe/\oe.cls=.ref C/\oe.data=.fields vs/\vs[1]?=some .none/\E (.ref e) s1) E s):wpAny M A (raiseStmt env (some x) none) Q E s:=by
 have ct:(Value.ref C::.ref D::VE).contains (.type "BaseException")=true:=by simp
 unfold raiseStmt;refine au (bP hx λv s1 h1=>?_);obtain⟨e,oe,vs,rfl,⟨mN,mD,X⟩,he,hc,hd,h1,hE⟩:=h1;have X0:=X;obtain⟨⟨nm,q,N,bs,sn,sub,ab,nF,dd,k0,k1,k2,k3,k5,hC,hN⟩,_,_⟩:=X;obtain⟨hp,g,d,tk,os⟩:=s1;have nt:oe.data=.fields vs:=hd
 repeat (first | (with_reducible refine gk he ?_;rw[hc]) | with_reducible refine gk hC ?_ | (with_reducible refine nG X0 ?_;rw[ct]) | with_reducible refine kY he hd h1 ?_ | wp_step)
 exact wpAny_raiseNew_none hh hE
theorem DK {s : Shared} {x : Str} {np cF pos : Pos} {args : List Expr} {Q : Flow -> Shared -> Prop} (hh : A.handled = none) (hp : (backTo cF (starEach args env)).any (·.1) = false)
    (hx:wpAny (model prog w) A (eval (.Name x np) env) (λf s1=>f=.ref C/\wpAny (model prog w) A (evalArgs (.ref C) true (backTo cF (starEach args env)) []) (λa s2=>a.kw=[]/\(∃mN mD,eR s2.heap C D mN mD) /\
      wpAny (model prog w) A (call (.ref C) a.pos) (λv s3=>∃e oe vs,v=.ref e/\(∃mN mD,eR s3.heap C D mN mD)/\s3.heap.get? e=some oe/\oe.cls=.ref C/\oe.data=.fields vs/\vs[1]?=some .none/\E (.ref e) s3) E s2) E s1) E s) :
    wpAny (model prog w) A (exec (.Raise (some (.Call (.Name x np) args [] cF)) none pos) env) Q E s:=by
  rw[arm_exec_Raise];refine au (w_ (rg (C:=C) (D:=D) hh ?_));refine au (bP (wpAny_Call_ofName (bP hx λf s1 h1=>?_)) λv s3 h3=>au (w_ (aO h3)));obtain⟨rfl,h1⟩:=h1;unfold callWith;refine au (kX (bP h1 λa s2 h2=>au (w_ ?_)));obtain⟨ap,ak⟩:=a;obtain⟨hk,⟨mN,mD,X⟩,h2⟩:=h2;obtain rfl:ak=[]:=hk;obtain⟨⟨nm,q,N,bs,sn,sub,ab,nF,dd,k0,k1,k2,k3,k5,hC,hN⟩,_,_⟩:=X;obtain⟨Y3,g,d,tk,os⟩:=s2;simp only[hp];refine au (wpAny_keeperOf_exc hC ?_);exact au (bP h2 λv s3 h3=>au (kX (wpAny_point (aO h3))))
theorem mS{x:Addr}{name:Str}{v:Value}{tk:Tok}{o:Obj}{vs:Array Value}{Q:Fin->Shared->Prop}(X:eR h C D mN mD)(hn:mN name=none)(hm:mD name=none) (hB:typeLookup (.type "ValueError") name=pure none) (hx:h.get? x=some o) (hc:o.cls=.ref C) (hd:o.data=.fields vs) (hz:o.dict=none) (hq:∀h' yC dx,h.objs.size<=dx->h'.get? x=some {o with dict:=some dx}->(∀b u,b≠x->h.get? b=some u->h'.get? b=some u)->h'.Ns1 dx (λy=>if y=name then some v else none)->Q (.done (.ret .none)) ⟨h',g,d,yC,os⟩):wpAny (model prog w) A (Builtin.«object.__setattr__» ⟨[.ref x,.str name tk,v],[]⟩) Q E ⟨h,g,d,t,os⟩:=by
 have hp:refuseLoop (.ref x) "__setattr__" (.ref C::.ref D::VE)=pure ():=by rw[refuseLoop_ref,refuseLoop_ref];exact qA.passes _
 have X0:=X;obtain⟨⟨nm,q,N,bs,sn,sub,ab,nF,dd,k0,k1,k2,k3,k5,hC,hN⟩,_,_⟩:=X;unfold Builtin.«object.__setattr__»
 repeat (first | rw[refuse_eq] | rw[hp] | (with_reducible refine gk hx ?_;rw[hc]) | with_reducible refine wpAny_mroOf_exc hC ?_ | (with_reducible refine fH X0 hB ?_;rw[hn,hm]) | wp_step)
 rw[hz,hd,a8 (by simp[typeHasDict])];have Tq:(h.push {cls:=.type "dict",data:=.dict #[]}).get? x=some o:=cT _ hx;have ne:x≠h.objs.size:=ej (bL hx);refine au (wpAny_alloc' (au (wpAny_update' Tq (aO ?_))));generalize hu:((h.push {cls:=.type "dict",data:=.dict #[]}).update x λo=>{cls:=o.cls,dict:=some h.objs.size,data:=o.data,slots:=o.slots})=h1;have g1:h1.get? h.objs.size=some {cls:=.type "dict",data:=.dict #[]}:=by subst hu;exact(Heap.get?_update_ne _ _ _ _ ne.symm).trans (Heap.get?_push_at rfl rfl)
 have g2:h1.get? x=some {o with dict:=some h.objs.size}:=by
  subst hu;refine yL _ Tq ?_;obtain⟨a,b,c,e⟩:=o;obtain rfl:c=.fields vs:=hd;rfl
 have g3:∀b u,b≠x->h.get? b=some u->h1.get? b=some u:=λb u nb z=>by subst hu;exact(Heap.get?_update_ne _ _ _ _ nb).trans (cT _ z)
 have nd:h1.Ns h.objs.size (λ_=>none):=⟨_,#[],_,g1,rfl,λe he=>absurd he (by simp),λ_=>rfl⟩;show wpAny _ _ (storeInDict h.objs.size (.str name tk) name v) _ _ _;unfold storeInDict newKeyGuard;refine au (aO (au (wpAny_nsSet1 (Heap.Ns1.of_empty nd) λh' n1 sm=>?_)));obtain⟨oD,es,ep,Vx,Vy,Vz⟩:=n1.count (Within.cons name v Within.nil);refine au (wpAny_lookBehind Vx (by rw[Vy];exact pastItsLine_dict (cJ Vz (by rw[kW,yV,sizeLine_eq];omega))) ?_)
 wp_walk
 exact hq h' _ h.objs.size (aL _) ((sm.2 x ne).trans g2) (λb u nb z=>(sm.2 b (ej (bL z))).trans (g3 b u nb z)) n1
theorem tS{x:Addr}{o:Obj}{nv v:Value}{Q:Unit->Shared->Prop}(X:eR h C D mN mD)(hx:h.get? x=some o)(hc:o.cls=.ref C)(hq:Q () ⟨h,g,d,t,os⟩):wpAny M A (checkBuiltinCall "object.__setattr__" ⟨[.ref x,nv,v],[]⟩) Q E ⟨h,g,d,t,os⟩:=by
 have ct:(Value.ref C::.ref D::VE).contains (.type "object")=true:=by simp
 have ha:=qA.args (.ref x) nv v;simp only[checkBuiltinCall,qA.kind,qA.split];refine au ?_
 ·unfold isInstance
  repeat (first | (with_reducible refine gk hx ?_;rw[hc]) | (with_reducible refine nG X ?_;rw[ct]) | wp_step)
  exact hq
theorem DL{x:Addr}{name:Str}{v:Value}{o:Obj}{vs:Array Value}{Q:Unit->Shared->Prop}(X:eR h C D mN mD) (hs:mN "__setattr__" = none) (VA:mD "__setattr__" = none) (hn:mN name=none) (hm:mD name=none) (hB:typeLookup (.type "ValueError") name=pure none) (hx:h.get? x=some o) (hc:o.cls=.ref C) (hd:o.data=.fields vs) (hz:o.dict=none) (hq:∀h' yC dx,h.objs.size<=dx->h'.get? x=some {o with dict:=some dx}->(∀b u,b≠x->h.get? b=some u->h'.get? b=some u)->h'.Ns1 dx (λy=>if y=name then some v else none)->Q () ⟨h',g,d,yC,os⟩):wpAny (model prog w) A (setAttr (.ref x) name v) Q E ⟨h,g,d,t,os⟩:=by
 have f3:=qA.slot.bind (.ref x);unfold setAttr callSpecial? specialOf
 repeat (any_goals (first | assumption | (with_reducible refine gk hx ?_;rw[hc]) | (with_reducible refine fH X qA.slot.lookup ?_;rw[hs,VA]) | wp_step))
 refine Cz qA.slot.plain qA.entry (tS X hx hc (mS X hn hm hB hx hc hd hz λh' yC dx a b c e=>?_))
 repeat (any_goals (first | assumption | wp_step))
 exact hq h' yC dx a b c e
theorem lz{x:Addr}{o:Obj}{nv:Value}{Q:Unit->Shared->Prop}(X:eR h C D mN mD)(hx:h.get? x=some o)(hc:o.cls=.ref C)(hq:Q () ⟨h,g,d,t,os⟩):wpAny M A (checkBuiltinCall "BaseException.__getattribute__" ⟨[.ref x,nv],[]⟩) Q E ⟨h,g,d,t,os⟩:=by
 have hk:builtinKind "BaseException.__getattribute__" = some .slot:=⋯;have HU:splitId "BaseException.__getattribute__" = some ("BaseException","__getattribute__"):=⋯;have ct:(Value.ref C::.ref D::VE).contains (.type "BaseException")=true:=by simp
 have ha:=F.args_bexc_ga (.ref x) nv;simp only[checkBuiltinCall,hk,HU];refine au ?_
 ·unfold isInstance
  repeat (first | (with_reducible refine gk hx ?_;rw[hc]) | (with_reducible refine nG X ?_;rw[ct]) | wp_step)
  exact hq
theorem ph{x dx:Addr}{name:Str}{v:Value}{tk:Tok}{o:Obj}{vs:Array Value}{Q:Fin->Shared->Prop}(X:eR h C D mN mD)(hn:mN name=none)(hm:mD name=none) (hB:typeLookup (.type "ValueError") name=pure none) (hx:h.get? x=some o) (hc:o.cls=.ref C) (hd:o.data=.fields vs) (hz:o.dict=some dx) (hA:h.Ns1 dx mA) (hv:mA name=some v) (hq:Q (.done (.ret v)) ⟨h,g,d,t,os⟩):wpAny (model prog w) A (Builtin.«object.__getattribute__» ⟨[.ref x,.str name tk],[]⟩) Q E ⟨h,g,d,t,os⟩:=by
 have X0:=X;obtain⟨⟨nm,q,N,bs,sn,sub,ab,nF,dd,k0,k1,k2,k3,k5,hC,hN⟩,_,_⟩:=X;unfold Builtin.«object.__getattribute__»
 repeat (first | (with_reducible refine gk hx ?_;rw[hc]) | (with_reducible refine fH X0 hB ?_;rw[hn,hm]) | wp_step)
 rw[hd];unfold instanceDict inDict
 repeat (first | (with_reducible refine gk hx ?_;rw[hc]) | with_reducible refine gk hC ?_ | rw[hz] | (with_reducible refine wpAny_nsGet hA.ns ?_;rw[hv]) | wp_step)
 exact hq
theorem HV{x dx:Addr}{name:Str}{v:Value}{o:Obj}{vs:Array Value}{e:Bool}{Q:Value->Shared->Prop}(X:eR h C D mN mD) (hg:mN "__getattribute__" = none) (Rm:mD "__getattribute__" = none) (ha:mN "__getattr__" = none) (Rn:mD "__getattr__" = none) (hn:mN name=none) (hm:mD name=none) (hB:typeLookup (.type "ValueError") name=pure none) (hx:h.get? x=some o) (hc:o.cls=.ref C) (hd:o.data=.fields vs) (hz:o.dict=some dx) (hA:h.Ns1 dx mA) (hv:mA name=some v) (hh:handedOut v=pure v) (hq:Q v ⟨h,g,d,t+1,os⟩):wpAny (model prog w) A (getAttr (.ref x) name e) Q E ⟨h,g,d,t,os⟩:=by
 have f3:=qy.ga.bind (.ref x);have q0:(e&&onTheHeap (Value.builtin "BaseException.__getattribute__"))=false:=by cases e<;>rfl
 have q2:(Value.builtin "BaseException.__getattribute__" == Value.builtin "object.__getattribute__")=false:=⋯;have q1:(onTheHeap (Value.ref C)&&Value.builtin "BaseException.__getattribute__" == Value.builtin "object.__getattribute__")=false:=by rw[q2];rfl
 unfold getAttr getAttrBy
 repeat (any_goals (first | assumption | (with_reducible refine gk hx ?_;rw[hc]) | (with_reducible refine fH X qy.ga.lookup ?_;rw[hg,Rm]) | (with_reducible refine fH X qy.noGetattr ?_;rw[ha,Rn]) | wp_step))
 refine Cz qy.ga.plain F.entry_bexc_ga (lz X hx hc (ph X hn hm hB hx hc hd hz hA hv ?_));show wpAny _ _ (handedOut v) _ _ _;rw[hh];exact aO hq
end
end L2
end
section
namespace L2
open PySem PySem.Spec PyProof.Rows
open Builtin Builtin.ObjectAttr
section
variable {M:Model} {prog:Program} {w:World} {A:Around} {E:Value->Shared->Prop} {h:Heap} {g:Array GenState} {d:Drawn} {t:Nat} {os:OsState} {C D x:Addr} {mN mD mA:Str->Option Value} {o:Obj} {vs:Array Value}
theorem rh:typeLookup (.type "ValueError") "__class__" = pure (some (.builtin "object.__class__")):=by rw[typeLookup_type,GC];kernel_rfl
theorem rm{R:Result->Shared->Prop}(X:eR h C D mN mD)(hx:h.get? x=some o)(hc:o.cls=.ref C)(hq:R (.ok (.ret (.ref C))) ⟨h,g,d,t,os⟩):codeAny (model prog w) A (.call (.builtin "getset_descriptor.__get__") ⟨[.builtin "object.__class__",.ref x,.ref C],[]⟩) R ⟨h,g,d,t,os⟩:=by
 have hT:(⟨h,g,d,t,os⟩:Shared).TypeIs (.builtin "object.__class__") "getset_descriptor" := GD;have ct:(Value.ref C::.ref D::VE).contains (.type (".".intercalate ("object.__class__".cutAt '.').dropLast))=true:=by rw[F.owner_object_class];simp
 refine Cz F.slot_gs_get.plain F.entry_gs_get (F.slot_gs_get.check _ _ _ _ _ _ _ _ hT (F.args_gs_get _ _ _) ?_)
 repeat (any_goals (first | assumption | (with_reducible refine gk hx ?_;rw[hc]) | (with_reducible refine nG X ?_;rw[ct]) | wp_step))
 refine⟨Code.quiet_builtin _ ⋯,codeAny_builtin F.entry_object_class ?_⟩
 repeat (any_goals (first | assumption | (with_reducible refine gk hx ?_;rw[hc]) | wp_step))
theorem mT{tk:Tok}{Q:Fin->Shared->Prop}(X:eR h C D mN mD) (hn:mN "__class__" = none) (hm:mD "__class__" = none) (hx:h.get? x=some o) (hc:o.cls=.ref C) (hq:Q (.done (.ret (.ref C))) ⟨h,g,d,t,os⟩):wpAny (model prog w) A (Builtin.«object.__getattribute__» ⟨[.ref x,.str "__class__" tk],[]⟩) Q E ⟨h,g,d,t,os⟩:=by
 have hT:(⟨h,g,d,t,os⟩:Shared).TypeIs (.builtin "object.__class__") "getset_descriptor" := GD;have f5:=GD;have f6:=F.slot_gs_get.lookup;have f7:=F.slot_gs_set.lookup
 repeat (any_goals (first | assumption | (with_reducible refine gk hx ?_;rw[hc]) | (with_reducible refine fH X rh ?_;rw[hn,hm]) | wp_step))
 refine rm X hx hc ?_
 repeat (any_goals (first | assumption | wp_step))
theorem DM{Q:Option Value->Shared->Prop}(X:eR h C D mN mD) (hg:mN "__getattribute__" = none) (Rm:mD "__getattribute__" = none) (ha:mN "__getattr__" = none) (Rn:mD "__getattr__" = none) (hn:mN "__class__" = none) (hm:mD "__class__" = none) (hx:h.get? x=some o) (hc:o.cls=.ref C) (hq:Q (some (.ref C)) ⟨h,g,d,t+1,os⟩):wpAny (model prog w) A (getAttr? (.ref x) "__class__") Q E ⟨h,g,d,t,os⟩:=by
 have f3:=qy.ga.bind (.ref x);have q2:(Value.builtin "BaseException.__getattribute__" == Value.builtin "object.__getattribute__")=false:=⋯;have q1:(onTheHeap (Value.ref C)&&Value.builtin "BaseException.__getattribute__" == Value.builtin "object.__getattribute__")=false:=by rw[q2];rfl
 unfold getAttr? getAttrBy? getAttrBy
 repeat (any_goals (first | assumption | (with_reducible refine gk hx ?_;rw[hc]) | (with_reducible refine fH X qy.ga.lookup ?_;rw[hg,Rm]) | (with_reducible refine fH X qy.noGetattr ?_;rw[ha,Rn]) | wp_step))
 refine Cz qy.ga.plain F.entry_bexc_ga (lz X hx hc (mT X hn hm hx hc ?_))
 repeat (any_goals (first | assumption | wp_step))
end
end L2
end
section
namespace L2
open PySem PySem.Spec PyProof.Rows
structure xN (h:Heap) (lo:Nat) (e:Addr) (C dx:Addr) (tr:Option Addr):Prop where
 le:lo<=e
 obj:∃oe vs,h.get? e=some oe/\oe.cls=.ref C/\oe.dict=some dx/\oe.data=.fields vs/\(match tr with
  | none=>vs[1]?=some .none
  | some T=>vs[1]?=some (.ref T)/\T≠e/\lo<=T/\∃oT ts,h.get? T=some oT/\oT.data=.fields ts/\ts[3]?=some .none)
structure rn (fr:List Addr) (e:Addr) (tr:Option Addr) (h h':Heap):Prop where
 sz:h.objs.size<=h'.objs.size
 keep:∀b o,h.get? b=some o->b≠e->tr≠some b->b∉fr->h'.get? b=some o
 slots:∀b o,h.get? b=some o->b≠e->tr≠some b->∃sl,h'.get? b=some {o with slots:=sl}
section
variable {M:Model} {A:Around} {E:Value->Shared->Prop} {s:Shared}
theorem vF{base:Heap}{env:Env}{outer:List Env}{L e C dx:Addr}{lo:Nat}{h0:Heap}{oe:Obj}{vs:Array Value}{tr:Option Addr}{DN:Value}{hn:Bool}{Q:Unit->Shared->Prop}(z5:A.frames=some (env::outer))(hl:s.heap.FunFrames base (env::outer))(hf:env.frame=some L)(tQ:lo<=s.heap.objs.size)(le:lo<=e)(he:s.heap.get? e=some oe)(hc:oe.cls=.ref C)(hx:oe.dict=some dx)(hd:oe.data=.fields vs)(hz:1<vs.size)(k0:rn ((env::outer).filterMap (·.frame)) e tr h0 s.heap)(hq:∀h' T,xN h' lo e C dx (some T)->h0.objs.size<=T->rn ((env::outer).filterMap (·.frame)) e tr h0 h'->Q () {s with heap:=h'}):wpAny M A (do let a <- frameOf env;let pl <- entryPlaceOf L hn;let b <- EntryCells.newEntry DN a .none (rawInt L) .none pl;setField (.ref e) 1 b) (λ_ s'=>wpAny M A (setFlight (.ref e) none) Q E s') E s:=by
 have ne:e∉(env::outer).filterMap (·.frame):=λhm=>by
  obtain⟨_,o,ho,nf⟩:=hl.mem hm;rw[he]at ho;cases ho;exact nf vs hd
 refine au (wpAny_frameOf_fun z5 hl hf λh1 s1=>au (wpAny_entryPlaceOf λpl hp=>?_));unfold EntryCells.newEntry newFields;refine au (mM ?_ (hp.sizeOk5 _ _ _ _ _));generalize ho:({cls:=.type "traceback",dict:=none,data:=.fields ([DN,.ref L,.none,rawInt L,.none]++(if pl.isEmpty then List.replicate 6 Value.none else pl)).toArray}:Obj)=ot;have FT:h1.get? e=some oe:=(s1.2.1 e ne).trans he;have Mx:=cT (h:=h1) ot FT;refine wpAny_setField Mx hd hz ?_;have nT:h1.objs.size≠e:=Nat.ne_of_gt (bL FT);have Ms:=Obj.data_mapFields hd (·.setIfInBounds 1 (Value.ref h1.objs.size));have Tr:=yL (Obj.mapFields (·.setIfInBounds 1 (Value.ref h1.objs.size))) Mx (Obj.isFreed_of_fields Ms);have gt:(h1.push ot).get? h1.objs.size=some ot:=kT h1 (by subst ho;rfl);have hT:=(qx (h1.push ot) (Obj.mapFields (·.setIfInBounds 1 (Value.ref h1.objs.size))) (cK nT)).trans gt;have Ts:ot.data=.fields ([DN,.ref L,.none,rawInt L,.none]++(if pl.isEmpty then List.replicate 6 Value.none else pl)).toArray:=by subst ho;rfl
 unfold setFlight;refine au (kY Tr Ms (x:=.ref h1.objs.size) (by simp[hz]) ?_);rw[aS (show(Value.ref h1.objs.size != Value.none)=true from by simp)];have z3:3<([DN,.ref L,.none,rawInt L,.none]++(if pl.isEmpty then List.replicate 6 Value.none else pl)).toArray.size:=by simp only[cO,fB,kW,yV];omega
 refine wpAny_setField hT Ts z3 ?_;have Tt:=Obj.data_mapFields Ts (·.setIfInBounds 3 ((none:Option Addr).elim Value.none λf=>rawInt f));have VB:=yL (Obj.mapFields (·.setIfInBounds 3 ((none:Option Addr).elim Value.none λf=>rawInt f))) hT (Obj.isFreed_of_fields Tt);have VC:=(qx ((h1.push ot).update e (Obj.mapFields (·.setIfInBounds 1 (Value.ref h1.objs.size)))) (Obj.mapFields (·.setIfInBounds 3 ((none:Option Addr).elim Value.none λf=>rawInt f))) nT).trans Tr
 have hk:∀b o,h1.get? b=some o->b≠e->((((h1.push ot).update e (Obj.mapFields (·.setIfInBounds 1 (Value.ref h1.objs.size)))).update h1.objs.size (Obj.mapFields (·.setIfInBounds 3 ((none:Option Addr).elim Value.none λf=>rawInt f))))).get? b=some o:=λb o hb nb=>by
  rw[qx _ _ (Nat.ne_of_gt (bL hb)),qx _ _ (cK nb)];exact cT _ hb
 have VD:h1.objs.size=s.heap.objs.size:=s1.1;refine hq _ h1.objs.size ⟨le,_,_,VC,(Obj.cls_mapFields _ _).trans hc,?_,Ms,by simp[hz],nT,∅,_,_,VB,Tt,?_⟩ (by have:=k0.sz;omega) ⟨?_,λb o hb nb nt nf=>?_,λb o hb nb nt=>?_⟩
 ·obtain⟨a1,a2,a3,a4⟩:=oe;obtain rfl:a3=.fields vs:=hd;exact hx
 ·rw[Array.getElem?_setIfInBounds,aS rfl,aS z3];rfl
 ·refine cJ k0.sz ?_;rw[<- VD,GA,GA,w8];exact Nat.le_succ _
 ·exact hk b o ((s1.2.1 b nf).trans (k0.keep b o hb nb nt nf)) nb
 ·obtain⟨sl,h5⟩:=k0.slots b o hb nb nt;obtain⟨Lu,h6⟩:=s1.2.2 b _ h5;exact⟨Lu,hk b _ h6 nb⟩
theorem rn.refl{fr:List Addr}{e:Addr}{tr:Option Addr}{h:Heap}:rn fr e tr h h:=⟨aL _,λ_ _ z _ _ _=>z,λb o z _ _=>⟨o.slots,z⟩⟩
theorem HW{base:Heap}{env:Env}{outer:List Env}{L e C dx:Addr}{lo:Nat}{tr:Option Addr}{Q:Unit->Shared->Prop}(z5:A.frames=some (env::outer))(hl:s.heap.FunFrames base (env::outer))(hf:env.frame=some L)(tQ:lo<=s.heap.objs.size)(hx:xN s.heap lo e C dx tr)(hq:∀h' T,xN h' lo e C dx (some T)->s.heap.objs.size<=T->rn ((env::outer).filterMap (·.frame)) e tr s.heap h'->Q () {s with heap:=h'}):wpAny M A (noteFrame (.ref e) env) (λ_ s'=>wpAny M A (setFlight (.ref e) none) Q E s') E s:=by
 obtain⟨le,oe,vs,he,hc,hx,hd,ht⟩:=hx;unfold noteFrame;simp only[hf]
 cases tr with
 | none =>
  have h1:vs[1]?=some .none:=ht;refine au (kY he hd h1 ?_);rw[a8 (by decide)];exact vF z5 hl hf tQ le he hc hx hd (wQ.mp h1).1 .refl hq
 | some T =>
  obtain⟨h1,nT,lT,oT,ts,gT,dT,h3⟩:=ht;refine au (kY he hd h1 ?_);rw[aS (show(Value.ref T != Value.none)=true from by simp)];refine au (kY gT dT h3 ?_);rw[a8 (show ¬((Value.none==rawInt L)=true) from by simp[rawInt])];refine au (wpAny_setField gT dT (wQ.mp h3).1 ?_);have ot:∀b,b≠T->(s.heap.update T (Obj.mapFields (·.setIfInBounds 3 Value.none))).get? b=s.heap.get? b:=λb hb=>qx _ _ (cK hb);have z:(s.heap.update T (Obj.mapFields (·.setIfInBounds 3 Value.none))).objs.size=s.heap.objs.size:=GA ..
  refine vF (h0:=s.heap) z5 (hl.of_keeps λb o hb nf=>⟨o,(ot b λq=>by subst q;rw[gT]at hb;cases hb;exact nf ts dT).trans hb,rfl⟩) hf (by show lo<=(s.heap.update T _).objs.size;rw[z];exact tQ) le ((ot e (cK nT)).trans he) hc hx hd (wQ.mp h1).1
   ⟨tj z.symm,λb o hb nb nt nf=>(ot b λq=>nt (by rw[q])).trans hb,λb o hb nb nt=>⟨o.slots,(ot b λq=>nt (by rw[q])).trans hb⟩⟩ hq
end
end L2
end
section
namespace L2
open PySem PySem.Spec PyProof.Rows
noncomputable def XO(a C dx:Addr):HO:=.ext λh=>∃oe vs,h.get? a=some oe/\oe.cls=.ref C/\oe.dict=some dx/\oe.data=.fields vs
theorem XO.ok{P:Program}{w:World}{H:Hp}{h:Heap}{a C dx:Addr}{oe:Obj}{vs:Array Value}(e:h.get? a=some oe)(c:oe.cls=.ref C)(d:oe.dict=some dx)(f:oe.data=.fields vs):bD P w H h a (XO a C dx) :=
 ⟨⟨oe,vs,e,c,d,f⟩,⟨oe,e⟩,λh1 h2 ⟨oe,vs,e,r⟩ k=>⟨oe,vs,k _ e,r⟩⟩
theorem xN.mono{h:Heap}{lo Tu:Nat}{e C dx:Addr}{tr:Option Addr}(x:xN h lo e C dx tr)(l:Tu<=lo):xN h Tu e C dx tr:=by
 obtain⟨le,oe,vs,a,b,c,d,r⟩:=x;refine⟨cJ l le,oe,vs,a,b,c,d,?_⟩
 cases tr with
 | none=>exact r
 | some T=>exact⟨r.1,r.2.1,cJ l r.2.2.1,r.2.2.2⟩
theorem xN.ok{P:Program}{w:World}{H:Hp}{h:Heap}{lo:Nat}{e C dx:Addr}{tr:Option Addr}(x:xN h lo e C dx tr):bD P w H h e (XO e C dx):=by
 obtain⟨le,oe,vs,a,b,c,d,r⟩:=x;exact XO.ok a b c d
noncomputable def lA(X:Cx)(ae:List (Addr×Obj))(H:Hp)(tr:Option Addr):Prop:=∀T,tr=some T->H T=none/\X.df.heap.objs.size<=T/\T≠X.env.locals/\(∀x c,X.env.cells.lookup x=some c->c≠T)/\∀p∈X.pn++ae,p.1≠T
section
variable {X:Cx} {ae:List (Addr×Obj)} {σ:St} {H:Hp} {s:Shared}
theorem lA.new(I:Inv X ae σ H s){H':Hp}{T:Addr}(h:s.heap.objs.size<=T)(n:H' T=none):lA X ae H' (some T):=λT' e=>by
 cases e;refine⟨n,cJ I.sz h,λz=>?_,λx c e z=>?_,λp hp z=>?_⟩
 ·subst z;exact absurd I.lt (qH.mpr h)
 ·obtain⟨v,o,ho,_⟩:=I.cell x c e;subst z;exact absurd (bL ho) (qH.mpr h)
 ·have:=bL (I.pin p hp).1;rw[z]at this;exact absurd this (qH.mpr h)
theorem lA.none:lA X ae H none:=λ_ e=>nomatch e
theorem rq{M:Model}{E:Value->Shared->Prop}{lo:Nat}{e C dx:Addr}{tr:Option Addr}{Q:Unit->Shared->Prop}(I:Inv X ae σ H s)(vd:X.stack=X.env::X.outer/\X.env.frame=some X.env.locals)(hx:xN s.heap lo e C dx tr)(he:H e=some (XO e C dx))(hT:lA X ae H tr)(tQ:lo<=s.heap.objs.size)(hq:∀s' T,Inv X ae σ H s'->xN s'.heap lo e C dx (some T)->s.heap.objs.size<=T->H T=none->Q () s'):wpAny M X.A (noteFrame (.ref e) X.env) (λ_ s'=>wpAny M X.A (setFlight (.ref e) none) Q E s') E s:=by
 have z5:=I.ok.frames;rw[vd.1]at z5;have e6:=I.stack;rw[vd.1]at e6;refine HW z5 e6 vd.2 tQ hx λh' T x l k=>?_;have hn:H T=none:=I.bt.fresh l
 have My:∀b,b∈(X.env::X.outer).filterMap (·.frame)->H b=none/\b∈X.env.locals::X.fs:=λb hb=>by
  have DB:b∈xh X.stack:=by rw[vd.1];exact hb
  exact⟨I.oB b DB,I.oA b DB⟩
 have VF:∀b u,H b=some u->tr≠some b:=λb u q z=>by rw[(hT b z).1]at q;cases q
 have kt:∀b u o,H b=some u->b≠e->s.heap.get? b=some o->h'.get? b=some o:=λb u o q nb g=>k.keep b o g nb (VF b u q) λz=>by rw[(My b z).1]at q;cases q
 refine hq _ T ?_ x l hn;refine I.step (g':=s.gens) (d':=s.drawn) (t':=s.toks) (ch:=tr.toList) (λb hb=>?_) (λb o nl nf nc g n=>?_) (λb o nl hf nc g n=>?_) (λb o _ _ n=>n) (λb o nc g=>?_) (λ_ _ q=>q) (λ_ _ _ q=>q) (λb ps q=>⟨#[],by rw[q];simp⟩) (λm hm=>?_) (λb u q=>?_) I.bare
 ·cases tr with
  | none=>cases hb
  | some T0 =>
   have:b=T0:=by simpa using hb
   subst this;obtain⟨a1,a2,a3,a4,a5⟩:=hT b rfl;exact⟨.inr a2,a3,a4,a5⟩
 ·refine k.keep b o g (λz=>by subst z;rw[he]at n;cases n) (λz=>nc (by rw[z];simp)) λz=>?_;rcases bS.mp (My b z).2 with y | y
  ·exact nl y
  ·exact nf y
 ·exact k.slots b o g (λz=>by subst z;rw[he]at n;cases n) λz=>nc (by rw[z];simp)
 ·by_cases hb:b=e
  ·subst hb;obtain⟨_,oe,_,g1,_⟩:=x;exact⟨oe,g1⟩
  ·obtain⟨sl,y⟩:=k.slots b o g hb λz=>nc (by rw[z];simp);exact⟨_,y⟩
 ·obtain⟨o,es,ep,ho,r⟩:=hm;obtain⟨sl,y⟩:=k.slots _ o ho (λz=>by have f:=I.free;rw[z,he]at f;cases f) λz=>(hT _ z).2.2.1 rfl;exact⟨_,es,ep,y,r⟩
 ·by_cases hb:b=e
  ·subst hb;rw[he]at q;cases q;exact x.ok
  ·refine(I.bt b u q).qK (λc o hc g=>?_) (λ_ z=>z) λ_ _ z=>z;rcases hc with z | z
   ·subst z;exact kt _ u o q hb g
   ·refine kt c _ o z (λy=>?_) g;subst y;rw[he]at z;cases z
def ql(P:Program)(w:World):yA:=λouter H s E e s'=>∃ea C dx T H',e=.ref ea/\s'.os=s.os/\AllBare s'.gens/\Un (xh outer) [] H H' s.heap s'.heap/\gS P w H' s'.heap/\xN s'.heap s.heap.objs.size ea C dx (some T)/\H' ea=some (XO ea C dx)/\H' T=none/\E (.ref C) (some dx) H'
structure nH (X:Cx) (E:XK):Prop where
 xe:∀{ae:List (Addr×Obj)}{σ:St}{H:Hp}{s:Shared}{e C dx:Addr}{tr:Option Addr}{lo:Nat},Inv X ae σ H s->xN s.heap lo e C dx tr->H e=some (XO e C dx)->lA X ae H tr->X.df.heap.objs.size<=lo->lo<=s.heap.objs.size->E (.ref C) (some dx) H->X.xe (.ref e) s
 own:PassesOwn (model X.prog X.w) X.A X.env X.xe
theorem nH.pass{E:XK}(p:nH X E):oQ (ql X.prog X.w) X E:=by
 rintro ae σ H s e s' I ⟨ea,C,dx,T,H',rfl,os,bare,un,bt,x,he,hT,hE⟩;have I':Inv X ae σ H' s':=I.ze os un bt bare (λb z=>absurd z (by simp));have x0:=x;obtain⟨l1,oe,vs,g,c,d,f,h1,h2,lT,_⟩:=x;exact p.xe I' x0 he (lA.new I lT hT) I.sz (cJ l1 (mO (bL g))) hE
end
theorem pk{P:Program}{w:World}{K:Frag}{mg:Str->Option Value}{base:Heap}{N:List Str}{qual:Str}{scope:Scope}{f:Addr}{cd:Value}{A:Around}{outer:List Env}{df:Shared}{kZ:Hp}{E:XK}:nH (oS (ql P w) P w K mg base N qual scope f cd A outer df kZ E) E where
 own:=PassesOwn.leaving
 xe:=by
  intro ae σ H s e C dx tr lo I x he hT l1 l2 hE;show wpAny _ _ (leaving _ _) _ _ _;unfold leaving;refine au (rq I ⟨rfl,rfl⟩ x he hT l2 λs' T I' x' lT nT=>?_);exact⟨e,C,dx,T,H,rfl,I'.os,I'.bare,I'.base,I'.bt,x'.mono l1,he,nT,hE⟩
end L2
end
section
namespace L2
open PySem PySem.Spec PyProof.Rows
noncomputable def eI:List Str:=["__setattr__","__getattribute__","__getattr__","__class__"]
structure qm (K:Frag) (C D fI:Addr) (f:Str):Prop where
 cls:∃nm q N bs sn sub ab nF dd k0 k1 k2 k3 k5,K.lookup C=some (excClassObj nm q C N bs (.ref D::VE) true sn sub ab nF dd k0 k1 k2 k3 k5 "ValueError.__new__")/\PySem.W.nsOkIn K N=true/\PySem.W.nsIn K N "__init__" = some (some (.ref fI))/\∀n∈f::eI,PySem.W.nsIn K N n=some none
 par:∃c0 dd cd sl,K.lookup D=some {cls:=c0,dict:=dd,data:=.cls cd,slots:=sl}/\PySem.W.nsOkIn K cd.ns=true/\∀n∈("__init__" : Str)::f::eI,PySem.W.nsIn K cd.ns n=some none
 ve:typeLookup (.type "ValueError") f=pure none
theorem tT{K:Frag}{h:Heap}{N:Addr}{m:Str->Option Value}{n:Str}{v:Value}(X:K.In h)(G:h.Ns N m)(e:PySem.W.nsIn K N n=some (some v)):m n=some v:=by
 obtain⟨o,es,ep,ho,hd,_,hf⟩:=G;unfold PySem.W.nsIn at e;split at e
 ·rename_i q
  have z:=X _ _ q;rw[ho]at z;cases z;cases hd;split at e
  ·rename_i en he
   cases e;rw[<- hf];unfold nsFind findBy;rw[<- Array.find?_toList,he];rfl
  ·split at e<;>cases e
 ·cases e
theorem qm.at{K:Frag}{C D fI:Addr}{f:Str}(x:qm K C D fI f){h:Heap}(X:K.In h):∃mN mD,eR h C D mN mD/\mN "__init__" = some (.ref fI)/\∀n∈f::eI,mN n=none/\mD n=none:=by
 obtain⟨⟨nm,q,N,bs,sn,sub,ab,nF,dd,k0,k1,k2,k3,k5,hC,o1,i1,n1⟩,⟨c0,de,cd,sl,hD,o2,n2⟩,_⟩:=x;have a:h.Ns N (h.nsMap N):=.of_isNs (PySem.W.isNs_of_in X o1);have b:h.Ns cd.ns (h.nsMap cd.ns):=.of_isNs (PySem.W.isNs_of_in X o2);exact⟨_,_,⟨⟨nm,q,N,bs,sn,sub,ab,nF,dd,k0,k1,k2,k3,k5,X _ _ hC,a⟩,⟨c0,de,cd,sl,X _ _ hD,b⟩,GH X b (n2 _ eg)⟩,tT X a i1,λn hn=>⟨GH X a (n1 n hn),GH X b (n2 n (dC _ hn))⟩⟩
noncomputable def X0(a C:Addr):HO:=.ext λh=>∃oe t,h.get? a=some oe/\oe.cls=.ref C/\oe.dict=none/\oe.data=.fields #[.ref t,.none,.none,.none,.bool false,.none]
noncomputable def X1(a C dx:Addr):HO:=.ext λh=>∃oe t,h.get? a=some oe/\oe.cls=.ref C/\oe.dict=some dx/\oe.data=.fields #[.ref t,.none,.none,.none,.bool false,.none]
section
variable {X:Cx} {o value:Expr} {f:Str} {pos xo:Pos} {ta tv:TE}
def VG(K:Frag)(f:Str)(ta tv:TE):TS:=λZ σ H=>tv σ H λy H1=>ta σ H1 λx H2=>∃a C D fI,x=.ref a/\H2 a=some (X0 a C)/\qm K C D fI f/\∀dx,H2 dx=none->dx≠a->Z.nx σ (br (br H2 dx (.xd [(f,y)])) a (X1 a C dx))
theorem Mz(ha:PE X o ta)(hv:PE X value tv)(hs:swapsWith value (some (.Attribute o f xo)) pos.line X.env=pure false):PS X (.Assign [.Attribute o f xo] value pos) (VG X.K f ta tv):=by
 intro ae s σ H Z I h;refine plainObj_wpAny_Assign_Attribute (bP (hv ae s σ H _ I h) λu s1 ⟨y,H1,I1,ry,q⟩=>bP (ha ae s1 σ H1 _ I1 q) λov s2 ⟨x,H2,I2,rx,a,C,D,fI,ex,ea,xi,q2⟩=>?_) hs;subst ex;obtain rfl:ov=Value.ref a:=rx;obtain⟨⟨oe,t,e1,e2,e3,e4⟩,_,_⟩:=(show bD X.prog X.w H2 s2.heap a (X0 a C) from I2.bt a _ ea);obtain⟨mN,mD,xc,_,hn⟩:=xi.at I2.jn;have g1:=hn f (by simp);have g2:=hn "__setattr__" (by simp[eI]);obtain⟨h,g,d,tk,os⟩:=s2;refine DL xc g2.1 g2.2 g1.1 g1.2 xi.ve e1 e2 e4 e3 λh' yC dx l z k n1=>?_;have nx:H2 dx=none:=I2.bt.fresh l;have ne:dx≠a:=λy=>by subst y;exact absurd (bL e1) (qH.mpr l)
 have na:∀b,H2 b=none->b≠a:=λb q y=>by subst y;rw[ea]at q;cases q
 have nb:∀b u,H2 b=some u->b≠dx:=λb u q y=>by subst y;rw[nx]at q;cases q
 have u1:∀b,b≠a->b≠dx->br (br H2 dx (.xd [(f,y)])) a (X1 a C dx) b=H2 b:=λb p q=>by rw[aj p,aj q]
 have nl:∀b o,h.get? b=some o->b≠dx:=λb o q y=>by subst y;exact absurd (bL q) (qH.mpr l)
 have kk:∀b u,H2 b=some u->(∀c,u≠.ext c)->b≠a:=λb u q p y=>by subst y;rw[ea]at q;cases q;exact p _ rfl
 refine⟨σ,_,I2.un (t':=yC) ⟨λb o q n _ _=>k b o (na b n) q,λb o q n _ _=>⟨o.slots,k b o (na b n) q⟩,λb o q n _=>by rw[u1 b (na b n) (nl b o q)];exact n,λb o q _=>?_,λb xs q=>?_,λb o u q=>?_,λb ps q=>⟨#[],?_⟩⟩ λb u q=>?_,q2 dx nx ne⟩
 ·by_cases hb:b=a
  ·subst hb;exact⟨_,z⟩
  ·exact⟨o,k b o hb q⟩
 ·rw[u1 b (kk b _ q λc y=>by cases y) (nb b _ q)];exact q
 ·rw[u1 b (kk b _ q λc y=>by cases y) (nb b _ q)];exact q
 ·rw[u1 b (kk b _ q λc y=>by cases y) (nb b _ q),q];simp
 ·by_cases hb:b=a
  ·subst hb;rw[aQ]at q;cases q;exact⟨⟨_,t,z,e2,rfl,e4⟩,⟨_,z⟩,λh1 h2 ⟨oe,t,e,r⟩ k=>⟨oe,t,k _ e,r⟩⟩
  ·rw[aj hb]at q;by_cases hd:b=dx
   ·subst hd;rw[aQ]at q;cases q;refine⟨_,n1,λn=>?_⟩;by_cases hf:n=f
    ·subst hf;simp only[eF,qD,dD];exact ry
    ·have:(n==f)=false:=by simpa using hf
     simp only[eF,this,hf,ou];exact True.intro
   ·rw[aj hd]at q;refine(I2.bt b u q).qK (λc o hc r=>k c o ?_ r) (λc r=>?_) λc xs r=>?_
    ·rcases hc with y | y
     ·rw[y];exact hb
     ·exact kk c _ y λ_ w=>by cases w
    ·rw[u1 c (kk c _ r λ_ w=>by cases w) (nb c _ r)];exact r
    ·rw[u1 c (kk c _ r λ_ w=>by cases w) (nb c _ r)];exact r
end
def HX(K:Frag)(C D fI:Addr)(f:Str):Sp:=λvs H Q _=>∃a v,vs=[.ref a,v]/\H a=some (X0 a C)/\qm K C D fI f/\∀dx,H dx=none->dx≠a->Q .aJ (br (br H dx (.xd [(f,v)])) a (X1 a C dx))
theorem DO{P:Program}{w:World}{K:Frag}{mg:Str->Option Value}{base:Heap}{qual:Str}{st:Stmt}{fI C D:Addr}{fd:FuncData}{f sf:Str}{p1 p2 p3 p4:Pos}{k:Nat} (F:Ky K "__init__" qual st fI fd) (Sc:fF [sf,f] [sf,f] (aF st)) (hb:bZ st=[.Assign [.Attribute (.Name sf p1) f p2] (.Name f p3) p4]) (h1:Lv (aF st) sf) (h2:Lv (aF st) f) (n1:((sf==("__debug__" : Str))||(sf==("__classdict__" : Str))||(f==("__debug__" : Str))||(f==("__classdict__" : Str)))=false):dE P w K mg base FO (k+1) fI fd [sf,f] (HX K C D fI f):=by
 simp only[CA]at n1;obtain⟨⟨⟨a1,a2⟩,a3⟩,a4⟩:=n1;refine F.ok Sc (λvs H Q E h=>?_) λki A outer s H vs Q E hr sP=>?_
 ·obtain⟨a,v,rfl,_⟩:=h;rfl
 ·obtain⟨a,v,rfl,ha,xi,q⟩:=sP;refine⟨_,by rw[hb];exact iM (Mz (gq (i:=0) rfl h1 a1 a2) (gq (i:=1) rfl h2 a3 a4) rfl),?_⟩;exact⟨v,rfl,.ref a,rfl,a,C,D,fI,rfl,ha,xi,q⟩
section
variable {X:Cx}
def Ro(E:XK)(C:Addr)(f:Str)(t:TA):TS:=λ_ σ H=>t σ H λvs H1=>∃v,vs=[v]/\∀e dx,H1 e=none->H1 dx=none->dx≠e->E (.ref C) (some dx) (br (br H1 dx (.xd [(f,v)])) e (XO e C dx))
theorem Ad{E:XK}{k:Nat}{C D fI:Addr}{fd:FuncData}{oI:Obj}{f sf x:Str}{e:Expr}{np cF pos:Pos}{t:TA}(p:nH X E)(hc:X.A.handled=none)(xi:qm X.K C D fI f)(hf:X.K.lookup fI=some oI) (VH:oI.cls=.type "function") (F:dE X.prog X.w X.K X.mg X.base FO k fI fd [sf,f] (HX X.K C D fI f)) (hr:eQ (k+1) X.A) (hb:Binds X.K fd [sf,f] []) (hg:Gl X x) (hm:X.mg x=some (.ref C)) (ha:PA X [e] t) (hs:starEach [e] X.env=[(false,eval e X.env)]) (zC:(x==("__debug__" : Str))=false):PS X (.Raise (some (.Call (.Name x np) [e] [] cF)) none pos) (Ro E C f t):=by
 intro ae s σ H Z I h;refine DK (C:=C) (D:=D) hc (by rw[hs];rfl) (iL I hg hm ⟨rfl,?_⟩ zC);have ha:=ha cF ae s σ H _ I h;rw[hs]at ha⊢;refine Calls.evalArgs_plain (bP ha ?_);rintro us s1 ⟨vs,H1,I1,r,v,rfl,q⟩;obtain⟨u,rfl,ru⟩:=vals1 r;obtain⟨mN,mD,xc,hi,_⟩:=xi.at I1.jn;refine⟨rfl,⟨mN,mD,xc⟩,?_⟩;obtain⟨h1,g1,d1,t1,Tv⟩:=s1;refine Ac xc hi (I1.jn _ _ hf) VH (λh2 e hm l=>?_) (by show 1<=sizeLine;decide);obtain⟨t,ge,_⟩:=hm.there;have ne:H1 e=none:=I1.bt.fresh l;have I2:Inv X ae σ (br H1 e (X0 e C)) ⟨h2,g1,d1,t1,Tv⟩:=I1.laid (t':=t1) hm.keeps l ⟨⟨_,t,ge,rfl,rfl,rfl⟩,⟨_,ge⟩,λh1 h2 ⟨oe,t,e,r⟩ k=>⟨oe,t,k _ e,r⟩⟩
 have sP:HX X.K C D fI f [.ref e,v] (br H1 e (X0 e C)) (λw H2=>w=.aJ/\∃dx,H1 dx=none/\dx≠e/\H2=br (br (br H1 e (X0 e C)) dx (.xd [(f,v)])) e (X1 e C dx)) E0 :=
  ⟨e,v,rfl,aQ,xi,λdx nd ne2=>⟨rfl,dx,by rw[aj ne2]at nd;exact nd,ne2,rfl⟩⟩
 have r2:aP [V.ref e,v] [Value.ref e,u]:=.cons rfl (.cons ru .nil);refine wpAny_call (y4 (F.run _ X.stack _ _ ⟨[.ref e,u],[]⟩ [.ref e,u] _ _ E0 (hr.make C [u] []) (I2.Hv.make C [u] []) (by have:=hb ⟨h2,g1,d1,t1,Tv⟩ [.ref e,u] I2.jn rfl;rw[qF]at this;exact this) r2 sP) λr s3 hq=>?_)
 cases r with
 | error e=>exact hq.elim
 | ok fl =>
  cases fl with
  | ret u =>
   obtain⟨w,H',I3,jo,ew,dx,nd,VI,eH⟩:=I2.after hq;subst ew;refine⟨jo,?_⟩;have e1:H' e=some (X1 e C dx):=by rw[eH];exact aQ
   obtain⟨⟨oe,t3,g3,c3,d3,f3⟩,_⟩:=(show bD X.prog X.w H' s3.heap e (X1 e C dx) from I3.bt e _ e1)
   have VJ:br H' e (XO e C dx)=br (br H1 dx (.xd [(f,v)])) e (XO e C dx):=by
    rw[eH];funext b;by_cases hb:b=e
    ·subst hb;rw[aQ,aQ]
    ·rw[aj hb,aj hb,aj hb];by_cases hd:b=dx
     ·subst hd;rw[aQ,aQ]
     ·rw[aj hd,aj hd,aj hb]
   have I4:Inv X ae σ (br H' e (XO e C dx)) s3:=I3.write (t':=s3.toks) (h':=s3.heap) (by rw[e1];exact True.intro) (.inl rfl) (λ_ _ _ z=>z) ⟨_,g3⟩ (XO.ok g3 c3 d3 f3);obtain⟨mN,mD,VL,_⟩:=xi.at I3.jn;refine⟨e,oe,_,rfl,⟨mN,mD,VL⟩,g3,c3,f3,rfl,?_⟩;refine p.xe I4 (lo:=h1.objs.size) ⟨l,oe,_,g3,c3,d3,f3,rfl⟩ aQ lA.none I1.sz (cJ l (mO (bL g3))) ?_;rw[VJ];exact q e dx ne nd VI
  | next=>exact hq.elim
  | brk=>exact hq.elim
  | cont=>exact hq.elim
end
end L2
end
section
namespace L2
open PySem PySem.Spec PyProof.Rows
theorem xO{K:Frag}{M:Model}{A:Around}{E:Value->Shared->Prop}{s:Shared}{e C B:Addr}{oe:Obj}{Q:Bool->Shared->Prop}(X:K.In s.heap)(he:s.heap.get? e=some oe)(hc:oe.cls=.ref C)(h1:PySem.W.kitCls K (.ref C) (.ref B)=some true) (h2:PySem.W.kitCls K (.ref B) (.type "BaseException")=some true) (hq:Q true s):wpAny M A (excMatches (.ref e) (.ref B)) Q E s:=by
 obtain⟨a1,a2,a3⟩:=PySem.W.kit_cls (M:=M) X h1;obtain⟨_,_,b3⟩:=PySem.W.kit_cls (M:=M) X h2;have t1:PySem.W.Looks M s.heap (isInstance (.ref B) (.type "tuple")) false:=a1.andThen (PySem.W.Looks.of_pure tc_notTuple);unfold excMatches isExcClass;refine au (t1.at ?_);simp only[CG,ou];obtain⟨hp,g,d,tk,os⟩:=s;refine au (aO ?_);simp only[List.forIn_cons,List.forIn_nil]
 have t2:PySem.W.Looks M hp (typeOf (.ref e)) (.ref C):=by
  unfold typeOf;intro A' Q' E' s' k q;rw[<- hc]at q;exact au (wpAny_loadPart (k _ _ he) (aO q))
 refine au (au (au (au (a2.at ?_))));simp only[dD];refine b3.at ?_;simp only[Bool.not_true,CG,ou];refine aO (aO (au (t2.at (au (au (au (a3.at ?_)))))));simp only[dD];exact aO (aO (aO hq))
noncomputable def Cx.hx(X:Cx)(e:Addr):Cx:={X with A:=X.A.mark (some (.ref e)),calm:=false,xe:=λ_ _=>False}
section
variable {X:Cx} {ae:List (Addr×Obj)} {σ:St} {H:Hp} {s:Shared} {e:Addr}
theorem Inv.hx(I:Inv X ae σ H s)(e:Addr):Inv (X.hx e) ae σ H s :=
 ⟨⟨I.ok.mod,I.ok.kind,I.ok.glob,I.ok.blt,I.ok.above,I.ok.inj,I.ok.has,I.ok.Fx,λz=>Bool.noConfusion z,I.ok.frames,I.ok.vd,I.ok.OX,I.ok.bs,I.ok.Cg,I.ok.xj,I.ok.xk,I.ok.jx,I.ok.Fy⟩,I.os,I.bare,I.base,I.loc,I.cell,I.free,I.fi,I.pin,I.bt,I.len⟩
theorem Inv.Rp(ok:X.Ok)(I:Inv (X.hx e) ae σ H s):Inv X ae σ H s:=⟨ok,I.os,I.bare,I.base,I.loc,I.cell,I.free,I.fi,I.pin,I.bt,I.len⟩
theorem name_goes{M:Model}{A:Around}{E:Value->Shared->Prop}{i:Nat}{n:Str}{pos:Pos}{Q:Unit->Shared->Prop}(I:Inv X ae σ H s)(hN:X.N.Nodup)(hi:X.N[i]?=some n)(hl:X.env.scope.names.lookup n=some .local)(h:∀s',Inv X ae (σ.set i none) H s'->Q () s'):wpAny M A (do bindName X.env n .none;unbindBehindTheSuite X.env n pos) Q E s:=by
 obtain⟨m,hn,Rq⟩:=id I.loc;have G1:(X.env.scope.kind == .class||(X.env.scope.kind == .module&&X.env.locals != X.env.globals))=false:=by rw[I.ok.kind];rfl
 refine wpAny_nameGoes_keeps hl hn G1 λh' v Qo hs=>?_;have Kt:∀b o,X.df.heap.get? b=some o->b≠X.env.locals:=λb o e=>ej (eZ (bL e) I.ok.above);refine h _ ⟨I.ok,I.os,I.bare,⟨λb o e n hb hx=>(hs.2 b (Kt b o e)).trans (I.base.keep b o e n hb hx),λb o e n hb hx=>?_,I.base.free,λb o e hx=>?_,I.base.eP,I.base.jw,I.base.kh⟩,⟨_,Qo,λj y v' e1 e2 e3=>?_⟩,λy c e=>?_,I.free,I.fi,λp hp=>?_,λb ob q=>?_,by rw[jt];exact I.len⟩
 ·obtain⟨sl,e1⟩:=I.base.slot b o e n hb hx;exact⟨sl,(hs.2 b (Kt b o e)).trans e1⟩
 ·obtain⟨o',e1⟩:=I.base.there b o e hx;exact⟨o',(hs.2 b (Kt b o e)).trans e1⟩
 ·have hj:j≠i:=λz=>by
   subst z;rw[List.getElem?_set]at e2;split at e2
   ·split at e2<;>cases e2
   ·exact absurd rfl ‹_›
  rw[jr (cK hj)]at e2;obtain⟨u',r',q⟩:=Rq j y v' e1 e2 e3;refine⟨u',r',?_⟩;rcases q with⟨k,q⟩|⟨k,c,q,z⟩
  ·have ny:y≠n:=λz=>hj (k7 hN e1 (by rw[z];exact hi));exact .inl ⟨k,by show(if y=n then v else m y)=_;rw[a8 ny];exact q⟩
  ·exact .inr ⟨k,c,q,z.sameBut hs (I.CT y c q)⟩
 ·obtain⟨w',z⟩:=I.cell y c e;exact⟨w',z.sameBut hs (I.CT y c e)⟩
 ·obtain⟨e,n,ne,nf,d⟩:=I.pin p hp;exact⟨(hs.2 p.1 ne).trans e,n,ne,nf,d⟩
 ·refine(I.bt b ob q).qK (λc w' hc q'=>(hs.2 c ?_).trans q') (λ_ q=>q) λ_ _ q=>q;rintro rfl;rcases hc with z | z
  ·have:=I.free;rw[z,q]at this;cases this
  ·have:=I.free;rw[z]at this;cases this
theorem tU{Z:Ends}{lo:Nat}{C dx B:Addr}{tr:Option Addr}{cn n:Str}{tp MB:Pos}{b0:Stmt}{hb:List Stmt}{th:TS}{i:Nat}(I:Inv X ae σ H s)(vd:X.stack=X.env::X.outer/\X.env.frame=some X.env.locals)(x:xN s.heap lo e C dx tr)(he:H e=some (XO e C dx))(hT:lA X ae H tr)(l2:lo<=s.heap.objs.size)(hg:Gl X cn)(hm:X.mg cn=some (.ref B)) (zC:(cn==("__debug__" : Str))=false) (k1:PySem.W.kitCls X.K (.ref C) (.ref B)=some true) (k2:PySem.W.kitCls X.K (.ref B) (.type "BaseException")=some true) (hN:X.N.Nodup) (hi:X.N[i]?=some n) (hl:X.env.scope.names.lookup n=some .local) (hh:nh (X.hx e) (b0::hb) th) (q:th {nx:=λC1 H2=>Z.nx (C1.set i none) H2,rt:=λ_ _=>False} (σ.set i (some (.ref e))) H):wpAny (model X.prog X.w) X.A (noteFrame (.ref e) X.env) (λ_ s2=>wpAny (model X.prog X.w) X.A (setFlight (.ref e) none) (λ_ s3=>wpAny (model X.prog X.w) X.A (handleBy (.ref e) X.env [.ExceptHandler (some (.Name cn tp)) (some n) (b0::hb) MB]) (SP X ae Z) X.xe s3) X.xe s2) X.xe s:=by
 refine rq I vd x he hT l2 λs1 T I1 x1 lT nT=>?_;obtain⟨le,oe,vs,g1,c1,d1,f1,h1,Y4,_,oT,ts,gT,dT,h3⟩:=id x1;refine wpAny_handleBy_cons (codeAny_handlers_test ?_) (by intro q;cases q);refine iL (X:=X.hx e) (I1.hx e) hg hm ?_ zC;refine xO I1.jn g1 c1 k1 k2 ?_;refine codeAny_handlers_suite_as (wpAny_setFlight_none g1 f1 h1 gT dT (wQ.mp h3).1 ?_);have tt:=lA.new (H':=H) I lT nT T rfl;have I2:Inv X ae σ H {s1 with heap:=s1.heap.update T (Obj.mapFields (·.setIfInBounds 3 .none))}:=I1.turned (t':=s1.toks) (it:=T) (λb o nb z=>(qx _ _ (cK nb)).trans z) nT tt.2.2.1 (.inr tt.2.1) tt.2.2.2.1 tt.2.2.2.2;refine iK (v:=.ref e) I2 hN hi (.inl hl) rfl (λs3 I3=>?_) (.inr hl);refine ju (hh ae s3 _ H _ (I3.hx e) q) (λf s4 h4=>?_) λ_ _ z=>z.elim
 cases f with
 | next =>
  obtain⟨Y5,H4,I4,q4⟩:=h4;exact name_goes (I4.Rp I.ok) hN hi hl λs5 I5=>⟨_,H4,I5,q4⟩
 | brk=>obtain⟨_,_,_,q4⟩:=h4;exact q4.elim
 | cont=>obtain⟨_,_,_,q4⟩:=h4;exact q4.elim
 | ret u=>obtain⟨_,_,_,_,_,q4⟩:=h4;exact q4.elim
end
end L2
end
section
namespace L2
open PySem PySem.Spec PyProof.Rows
theorem Ae{K:Frag}{x C D fI:Addr}{f:Str}(xi:qm K C D fI f):PySem.W.KitX K (.ref x) (.ref C) (λh=>∃o,h.get? x=some o/\o.cls=.ref C) where
 ty:=λM h _ ⟨o,e,c⟩=>by
  unfold typeOf;intro A' Q' E' s' k q;rw[<- c]at q;exact au (wpAny_loadPart (k _ _ e) (aO q))
 it:=λM h X _=>by
  obtain⟨⟨nm,q,N,bs,sn,sub,ab,nF,dd,k0,k1,k2,k3,k5,hC,_⟩,_,_⟩:=xi;intro A' Q' E' s' k q;unfold isType loadHead;exact au (wpAny_loadPart (k _ _ (X _ _ hC)) (aO q))
 ne:=λh tp dd aC n sl X VM=>by
  obtain⟨⟨nm,q,N,bs,sn,sub,ab,nF,de,k0,k1,k2,k3,k5,hC,_⟩,_,_⟩:=xi;refine Bool.eq_false_iff.mpr λq=>?_;have e:C=tp:=Value.ref.inj (gR.mp q);subst e;have z:=oq Obj.cls (cU ((X _ _ hC).symm.trans VM));exact absurd (show Value.type "type" = Value.type "tuple" from z) (by decide)
 ca:=λ{prog w A E Q s} X ⟨o,e,c⟩ k=>by
  obtain⟨mN,mD,xc,_,hn⟩:=xi.at X;obtain⟨h,g,d,t,os⟩:=s;have n1:=hn "__getattribute__" (by simp[eI]);have n2:=hn "__getattr__" (by simp[eI]);have n3:=hn "__class__" (by simp[eI]);exact DM xc n1.1 n1.2 n2.1 n2.2 n3.1 n3.2 e c k
section
variable {X:Cx}
theorem XO.at{P:Program}{w:World}{H:Hp}{h:Heap}{a C dx:Addr}(x:gS P w H h)(e:H a=some (XO a C dx)):∃oe vs,h.get? a=some oe/\oe.cls=.ref C/\oe.dict=some dx/\oe.data=.fields vs:=(show bD P w H h a (XO a C dx) from x a _ e).1
def MC(K:Frag):List V->Hp->VK->Prop:=λxs H Q=>∃a C dx D fI f y b,xs=[.ref a,y]/\H a=some (XO a C dx)/\qm K C D fI f/\( (∃c,RelV y c/\PySem.W.kitOne K (.ref C) c=some b)\/∃(tp:Addr) (cs:List Addr),y=.ref tp/\H tp=some (.tup (cs.map V.ref))/\PySem.W.kitAny K (.ref C) (cs.map Value.ref)=some b)/\Q (.bl b) H
theorem nI:∀{cs:List Addr}{us:List Value},aP (cs.map V.ref) us->us=cs.map Value.ref
 | [],_,.nil=>rfl
 | _::_,_,.cons r t=>by rw[(show _=Value.ref _ from r),nI t];rfl
theorem DP{y:V}{c u:Value}(h:RelV y c)(k:RelV y u)(n:∀i,y≠.int i)(m:∀i,y≠.str i)(o:∀i,y≠.GW i)(p:∀i,y≠.Fw i):c=u:=by
 cases y with
 | int i=>exact absurd rfl (n i)
 | str i=>exact absurd rfl (m i)
 | GW i=>exact absurd rfl (o i)
 | Fw i=>exact absurd rfl (p i)
 | aJ=>exact(show c=_ from h).trans (show u=_ from k).symm
 | bl b=>exact(show c=_ from h).trans (show u=_ from k).symm
 | ref b=>exact(show c=_ from h).trans (show u=_ from k).symm
 | ty b=>exact(show c=_ from h).trans (show u=_ from k).symm
theorem Af:dg X (.builtin "isinstance") (MC X.K):=by
 intro ae s σ H xs us Q I r h;obtain⟨a,C,dx,D,fI,f,y,b,rfl,ea,xi,hc,q⟩:=h
 obtain⟨u1,u2,rfl,r1,r2⟩:∃u1 u2,us=[u1,u2]/\RelV (.ref a) u1/\RelV y u2:=by
  cases r with
  | cons r1 t=>cases t with
   | cons r2 t=>cases t;exact⟨_,_,rfl,r1,r2⟩
 obtain rfl:u1=Value.ref a:=r1;obtain⟨oe,vs,g1,c1,_,_⟩:=XO.at I.bt ea;have fin:∀tk,EP X ae σ Q (.bool b) {s with toks:=tk}:=λtk=>⟨.bl b,H,I.tok tk,rfl,q⟩;rcases hc with⟨c,rc,e⟩|⟨tp,cs,rfl,et,e⟩
 ·have:c=u2:=by
   refine DP rc r2 ?_ ?_ ?_ ?_<;>(rintro i rfl;obtain⟨t,rfl⟩:=rc;exact absurd e (by unfold PySem.W.kitOne;rw[a8 (by simp)];exact λz=>nomatch z))
  subst this;exact kc (Ae xi) I.jn ⟨oe,g1,c1⟩ e (λz=>nomatch z) fin
 ·obtain rfl:u2=Value.ref tp:=r2;obtain⟨_,aC,rv,o,go,co,n,d1⟩:=(show bD X.prog X.w H s.heap tp (.tup (cs.map V.ref)) from I.bt tp _ et);have:=nI rv;subst this;obtain⟨oc,od,VN,Ci⟩:=o;obtain rfl:oc=.type "tuple" := co;obtain rfl:VN=_:=d1;exact PySem.W.kia_tup (Ae xi) I.jn ⟨oe,g1,c1⟩ go e (λz=>nomatch z) fin
def VO(K:Frag)(te:TE)(f:Str):TE:=λσ H Q=>te σ H λx H1=>∃a C D fI dx fs i,x=.ref a/\H1 a=some (XO a C dx)/\qm K C D fI f/\H1 dx=some (.xd fs)/\fs.lookup f=some (V.int i)/\Q (.int i) H1
theorem MD{e:Expr}{f:Str}{pos:Pos}{te:TE}(he:PE X e te)(hb:attributeBase e f X.env (eval e X.env)=eval e X.env):PE X (.Attribute e f pos) (VO X.K te f):=by
 intro ae s σ H Q I h;refine C_ hb (bP (he ae s σ H _ I h) ?_);rintro u s1 ⟨x,H1,I1,rx,a,C,D,fI,dx,fs,i,rfl,ea,xi,ed,l,q⟩;obtain rfl:u=Value.ref a:=rx;obtain⟨oe,vs,g1,c1,d1,f1⟩:=XO.at I1.bt ea;obtain⟨mA,n1,rl⟩:=(show bD X.prog X.w H1 s1.heap dx (.xd fs) from I1.bt dx _ ed);have r:=rl f;rw[l]at r;obtain⟨mN,mD,xc,_,hn⟩:=xi.at I1.jn;have m1:=hn "__getattribute__" (by simp[eI]);have m2:=hn "__getattr__" (by simp[eI]);have m3:=hn f (by simp)
 cases hv:mA f with
 | none=>rw[hv]at r;exact r.elim
 | some v =>
  rw[hv]at r;obtain⟨t,rfl⟩:=(show ∃t,v=Value.int i t from r);obtain⟨h1,g,d,tk,os⟩:=s1;exact HV xc m1.1 m1.2 m2.1 m2.2 m3.1 m3.2 xi.ve g1 c1 f1 d1 n1 hv rfl ⟨.int i,H1,I1.tok _,⟨t,rfl⟩,q⟩
end
end L2
end
section
namespace Ev
open L2
open PySem PySem.Spec PyProof.Rows
inductive D where
 | aJ | bl (b:Bool) | int (i:Int) | str (s:Str) | tup (ds:List D) | aD (n:Nat) | ls (ds:List D)
 deriving Inhabited
inductive MO where
 | lst (ds:List D) | jG (ds:List D) | dK (ao:List (bA×D)) | dT (ao:List (List bA×D)) | dF (ao:List (List bA×D))
 deriving Inhabited
abbrev ag:=List MO
abbrev En:=List (Option D)
inductive W where
 | d (x:D) | lv (ds:List D)
 deriving Inhabited
structure vG where
 cls:Addr
 fs:List (Str×D)
inductive bJ (α:Type) where
 | ok (a:α) (M:ag) | err (x:vG) (M:ag) | af
noncomputable def bJ.bind{α β:Type}(o:bJ α)(f:α->ag->bJ β):bJ β:=match o with
 | .ok a M=>f a M
 | .err x M=>.err x M
 | .af=>.af
noncomputable def bJ.b0{α β:Type}(o:bJ α)(f:α->ag->bJ β):bJ β:=match o with
 | .ok a M=>f a M
 | _=>.af
noncomputable def rB(K:Frag)(H:Hp)(a:Addr)(xs:List V):Prop :=
 (∃o,H a=some (.gh o (.lst xs)))\/∃(o:Obj) (aC:Array Value) (n:Nat),K.lookup a=some o/\o.cls=.type "list" /\ o.dict=none/\o.data=.seq aC n/\aC.size<=sizeLine/\aP xs aC.toList
theorem rB.sq{K:Frag}{H:Hp}{a:Addr}{xs:List V}(h:rB K H a xs):gj K H a xs:=by
 rcases h with⟨o,h⟩ | h
 ·exact .inl (.inr ⟨o,h⟩)
 ·exact .inr h
mutual
noncomputable def RD(K:Frag)(ads:List Addr)(H:Hp):D->V->Prop
 | .aJ,v=>v=.aJ
 | .bl b,v=>v=.bl b
 | .int i,v=>v=.int i
 | .str s,v=>v=.str s
 | .tup ds,v=>∃a xs,v=.ref a/\H a=some (.tup xs)/\aT K ads H ds xs
 | .aD n,v=>∃a,v=.ref a/\ads[n]?=some a
 | .ls ds,v=>∃a xs,v=.ref a/\rB K H a xs/\aT K ads H ds xs
noncomputable def aT(K:Frag)(ads:List Addr)(H:Hp):List D->List V->Prop
 | [],xs=>xs=[]
 | d::ds,xs=>∃x r,xs=x::r/\RD K ads H d x/\aT K ads H ds r
end
section
variable (K:Frag) (ads:List Addr) (H:Hp)
def bQ{κ:Type}:List (κ×D)->List (κ×V)->Prop
 | [],xs=>xs=[]
 | p::ps,xs=>∃x r,xs=x::r/\p.1=x.1/\RD K ads H p.2 x.2/\bQ ps r
def KA(a:Addr):MO->Prop
 | .lst ds=>∃xs,H a=some (.lst xs)/\aT K ads H ds xs
 | .jG ds=>∃o xs,H a=some (.gh o (.lst xs))/\aT K ads H ds xs
 | .dK ao=>∃ks,H a=some (.dK ks)/\bQ K ads H ao ks
 | .dT ao=>∃ks,H a=some (.dT ks)/\bQ K ads H ao ks
 | .dF ao=>∃o ks,H a=some (.gh o (.dT ks))/\bQ K ads H ao ks
structure aR (M:ag):Prop where
 nd:ads.Nodup
 len:ads.length=M.length
 obj:∀(n:Nat)(o:MO)(a:Addr),M[n]?=some o->ads[n]?=some a->KA K ads H a o
def ME(ρ:En)(σ:L2.St):Prop:=∀(i:Nat)(d:D),ρ[i]?=some (some d)->∃v,σ[i]?=some (some v)/\RD K ads H d v
def RW:W->V->Prop
 | .d x,v=>RD K ads H x v
 | .lv ds,v=>∃a xs,v=.ref a/\H a=some (.lst xs)/\a∉ads/\aT K ads H ds xs
end
def Kept(ads:List Addr)(H H':Hp):Prop:=∀b o,b∉ads->H b=some o->H' b=some o
noncomputable def MF(H H':Hp):Prop:=∀b xs,H b=some (.tup xs)->H' b=some (.tup xs)
structure av (ads aq:List Addr) (H H':Hp):Prop where
 pre:∃r,aq=ads++r
 new:∀b∈aq,b∉ads->H b=none
 kept:Kept ads H H'
 eP:MF H H'
 gh:∀b o u,H b=some (.gh o u)->H' b=some (.gh o u)
theorem av.refl(ads:List Addr)(H:Hp):av ads ads H H:=⟨⟨[],by simp⟩,λb h n=>absurd h n,λ_ _ _ h=>h,λ_ _ h=>h,λ_ _ _ h=>h⟩
theorem av.trans{a b c:List Addr}{H H1 H2:Hp}(g:av a b H H1)(k:av b c H1 H2):av a c H H2:=by
 obtain⟨r,e⟩:=g.pre;obtain⟨r',e'⟩:=k.pre;refine⟨⟨r++r',by rw[e',e,yP]⟩,λx h n=>?_,λx o n h=>?_,λx xs h=>k.eP x xs (g.eP x xs h),λx o u h=>k.gh x o u (g.gh x o u h)⟩
 ·by_cases hb:x∈b
  ·exact g.new x hb n
  ·have:=k.new x h hb
   cases q:H x with
   | none=>rfl
   | some o=>rw[g.kept x o n q]at this;cases this
 ·refine k.kept x o (λhb=>?_) (g.kept x o n h);rw[g.new x hb n]at h;cases h
class EX where
 post:Frag->List Addr->Hp->vG->ag->Prop
 shift:∀{K:Frag}{ads aq:List Addr}{H H':Hp}{x:vG}{M:ag},post K ads H x M->av ads aq H H'->post K aq H' x M
@[reducible] noncomputable def never:EX:=⟨λ_ _ _ _ _=>False,λh _=>h⟩
instance (priority:=low) Pe:EX:=never
@[reducible] def tV(E:XK):EX:=⟨λK ads H x M=>∀H' aq dx fs,av ads aq H H'->aR K aq H' M->H' dx=some (.xd fs)->bQ K aq H' x.fs fs->E (.ref x.cls) (some dx) H',λh g H1 ai dx fs g1 m1 e r=>h H1 ai dx fs (g.trans g1) m1 e r⟩
section
variable {K:Frag} {ads aq:List Addr} {H H':Hp}
theorem av.get(g:av ads aq H H'){n:Nat}{a:Addr}(h:ads[n]?=some a):aq[n]?=some a:=by
 obtain⟨r,e⟩:=g.pre;rw[e,jq (by have:=(bV.mp h).1;exact this)];exact h
theorem av.jG(g:av ads aq H H'){a:Addr}{xs:List V}(h:rB K H a xs):rB K H' a xs:=by
 rcases h with⟨o,h⟩ | h
 ·exact .inl ⟨o,g.gh _ _ _ h⟩
 ·exact .inr h
mutual
theorem av.rd(g:av ads aq H H'):∀(d:D)(v:V),RD K ads H d v->RD K aq H' d v
 | .aJ,_,h=>by unfold RD at *;exact h
 | .bl _,_,h=>by unfold RD at *;exact h
 | .int _,_,h=>by unfold RD at *;exact h
 | .str _,_,h=>by unfold RD at *;exact h
 | .aD n,v,h=>by unfold RD at *;obtain⟨a,e,h⟩:=h;exact⟨a,e,g.get h⟩
 | .tup ds,v,h=>by unfold RD at *;obtain⟨a,xs,e,h,r⟩:=h;exact⟨a,xs,e,g.eP _ _ h,av.qo g ds xs r⟩
 | .ls ds,v,h=>by unfold RD at *;obtain⟨a,xs,e,h,r⟩:=h;exact⟨a,xs,e,g.jG h,av.qo g ds xs r⟩
theorem av.qo(g:av ads aq H H'):∀(ds:List D)(vs:List V),aT K ads H ds vs->aT K aq H' ds vs
 | [],_,h=>by unfold aT at *;exact h
 | d::ds,vs,h=>by unfold aT at *;obtain⟨x,r,e,h1,h2⟩:=h;exact⟨x,r,e,av.rd g d x h1,av.qo g ds r h2⟩
end
theorem av.DQ{κ:Type}(g:av ads aq H H'):∀(ds:List (κ×D))(vs:List (κ×V)),bQ K ads H ds vs->bQ K aq H' ds vs
 | [],_,h=>by unfold bQ at *;exact h
 | d::ds,vs,h=>by unfold bQ at *;obtain⟨x,r,e,h0,h1,h2⟩:=h;exact⟨x,r,e,h0,g.rd d.2 x.2 h1,av.DQ g ds r h2⟩
theorem av.Tw(g:av ads aq H H'){ρ:En}{σ:L2.St}(h:ME K ads H ρ σ):ME K aq H' ρ σ:=λi d e=>by
 obtain⟨v,e1,r⟩:=h i d e;exact⟨v,e1,g.rd d v r⟩
theorem av.eJ(g:av ads aq H H'){a:Addr}{o:HO}(n:a∉ads)(e:H a=some o):a∉aq:=λh=>by
 rw[g.new a h n]at e;cases e
theorem av.rw(g:av ads aq H H'){w:W}{v:V}(h:RW K ads H w v):RW K aq H' w v:=by
 cases w with
 | d x=>exact g.rd x v h
 | lv ds =>
  obtain⟨a,xs,e,h,n,r⟩:=h;exact⟨a,xs,e,g.kept a _ n h,g.eJ n h,g.qo ds xs r⟩
theorem aT.len:∀{ds:List D}{vs:List V},aT K ads H ds vs->ds.length=vs.length
 | [],_,h=>by unfold aT at h;subst h;rfl
 | d::ds,vs,h=>by unfold aT at h;obtain⟨x,r,e,h1,h2⟩:=h;subst e;simp[aT.len h2]
theorem aT.get:∀{ds:List D}{vs:List V}{i:Nat}{d:D},aT K ads H ds vs->ds[i]?=some d->∃v,vs[i]?=some v/\RD K ads H d v
 | [],_,_,_,h,e=>by simp at e
 | d::ds,vs,0,d',h,e=>by unfold aT at h;obtain⟨x,r,rfl,h1,h2⟩:=h;simp at e;subst e;exact⟨x,rfl,h1⟩
 | d::ds,vs,i+1,d',h,e=>by
  unfold aT at h;obtain⟨x,r,rfl,h1,h2⟩:=h;obtain⟨v,e',r'⟩:=aT.get (i:=i) h2 (by simpa using e);exact⟨v,by simpa using e',r'⟩
theorem aT.app:∀{ds es:List D}{vs ws:List V},aT K ads H ds vs->aT K ads H es ws->aT K ads H (ds++es) (vs++ws)
 | [],_,vs,_,h,k=>by unfold aT at h;subst h;exact k
 | d::ds,es,vs,ws,h,k=>by
  unfold aT at h;obtain⟨x,r,rfl,h1,h2⟩:=h;show aT K ads H (d::(ds++es)) (x::(r++ws));unfold aT;exact⟨x,_,rfl,h1,aT.app h2 k⟩
theorem aT.one{d:D}{v:V}(h:RD K ads H d v):aT K ads H [d] [v]:=by
 unfold aT;exact⟨v,[],rfl,h,by unfold aT;rfl⟩
theorem aT.take:∀{ds:List D}{vs:List V}(n:Nat),aT K ads H ds vs->aT K ads H (ds.take n) (vs.take n)
 | _,_,0,_=>by simp;unfold aT;rfl
 | [],vs,n+1,h=>by unfold aT at h;subst h;simp;unfold aT;rfl
 | d::ds,vs,n+1,h=>by unfold aT at h;obtain⟨x,r,rfl,h1,h2⟩:=h;simp only[List.take_succ_cons];unfold aT;exact⟨x,_,rfl,h1,aT.take n h2⟩
theorem aT.drop:∀{ds:List D}{vs:List V}(n:Nat),aT K ads H ds vs->aT K ads H (ds.drop n) (vs.drop n)
 | _,_,0,h=>by simpa using h
 | [],vs,n+1,h=>by unfold aT at h;subst h;simp;unfold aT;rfl
 | d::ds,vs,n+1,h=>by unfold aT at h;obtain⟨x,r,rfl,h1,h2⟩:=h;simp only[List.drop_succ_cons];exact aT.drop n h2
theorem aT.setAt:∀{ds:List D}{vs:List V}(n:Nat){d:D}{v:V},aT K ads H ds vs->RD K ads H d v->aT K ads H (ds.set n d) (vs.set n v)
 | [],vs,n,_,_,h,_=>by unfold aT at h;subst h;simp;unfold aT;rfl
 | d::ds,vs,0,_,_,h,k=>by unfold aT at h;obtain⟨x,r,rfl,h1,h2⟩:=h;simp only[List.set_cons_zero];unfold aT;exact⟨_,_,rfl,k,h2⟩
 | d::ds,vs,n+1,_,_,h,k=>by unfold aT at h;obtain⟨x,r,rfl,h1,h2⟩:=h;simp only[List.set_cons_succ];unfold aT;exact⟨_,_,rfl,h1,aT.setAt n h2 k⟩
theorem aR.grow{M:ag}(m:aR K ads H M)(g:av ads ads H H')(k:∀a∈ads,H' a=H a):aR K ads H' M:=⟨m.nd,m.len,λn o a e1 e2=>by
 have h:=m.obj n o a e1 e2;have ha:=k a (gQ e2)
 cases o with
 | lst ds=>obtain⟨xs,h,r⟩:=h;exact⟨xs,ha.trans h,g.qo _ _ r⟩
 | jG ds=>obtain⟨o,xs,h,r⟩:=h;exact⟨o,xs,ha.trans h,g.qo _ _ r⟩
 | dK ds=>obtain⟨xs,h,r⟩:=h;exact⟨xs,ha.trans h,g.DQ _ _ r⟩
 | dT ds=>obtain⟨xs,h,r⟩:=h;exact⟨xs,ha.trans h,g.DQ _ _ r⟩
 | dF ds=>obtain⟨o,xs,h,r⟩:=h;exact⟨o,xs,ha.trans h,g.DQ _ _ r⟩⟩
theorem aR.there{M:ag}(m:aR K ads H M){a:Addr}(h:a∈ads):∃o,H a=some o/\∀xs,o≠.tup xs:=by
 obtain⟨n,hn,e⟩:=Cy.mp h;have e2:ads[n]?=some a:=by rw[cE hn,e]
 have hM:n<M.length:=by rw[<- m.len];exact hn
 have h:=m.obj n M[n] a (cE hM) e2
 cases q:M[n]with
 | lst ds=>rw[q]at h;obtain⟨xs,h,r⟩:=h;exact⟨_,h,λ_ z=>by cases z⟩
 | jG ds=>rw[q]at h;obtain⟨o,xs,h,r⟩:=h;exact⟨_,h,λ_ z=>by cases z⟩
 | dK ds=>rw[q]at h;obtain⟨xs,h,r⟩:=h;exact⟨_,h,λ_ z=>by cases z⟩
 | dT ds=>rw[q]at h;obtain⟨xs,h,r⟩:=h;exact⟨_,h,λ_ z=>by cases z⟩
 | dF ds=>rw[q]at h;obtain⟨o,xs,h,r⟩:=h;exact⟨_,h,λ_ z=>by cases z⟩
theorem aR.fresh{M:ag}(m:aR K ads H M){p:Addr}(h:H p=none):p∉ads:=λz=>by
 obtain⟨o,e,_⟩:=m.there z;rw[h]at e;cases e
theorem av.dG{M:ag}(m:aR K ads H M){p:Addr}{o:HO}(h:H p=none):av ads ads H (br H p o) :=
 ⟨⟨[],by simp⟩,λb h n=>absurd h n,λb u n e=>by rw[aj (λz=>by subst z;rw[h]at e;cases e)];exact e,λb xs e=>by rw[aj (λz=>by subst z;rw[h]at e;cases e)];exact e,λb u x e=>by rw[aj (λz=>by subst z;rw[h]at e;cases e)];exact e⟩
theorem aR.dG{M:ag}(m:aR K ads H M){p:Addr}{o:HO}(h:H p=none):aR K ads (br H p o) M :=
 m.grow (av.dG m h) λa ha=>aj (λz=>by subst z;exact m.fresh h ha)
theorem Ag{α:Type}{l:List α}(h:l.Nodup){i j:Nat}{x:α}(a:l[i]?=some x)(b:l[j]?=some x):i=j:=by
 obtain⟨h1,e1⟩:=bV.mp a;obtain⟨h2,e2⟩:=bV.mp b;rcases Nat.lt_trichotomy i j with q | q | q
 ·exact absurd (e1.trans e2.symm) (Gs.mp h i j h1 h2 q)
 ·exact q
 ·exact absurd (e2.trans e1.symm) (Gs.mp h j i h2 h1 q)
mutual
theorem RD.wide{a:Addr}:∀(d:D)(v:V),RD K ads H d v->RD K (ads++[a]) H d v
 | .aJ,_,h=>by unfold RD at *;exact h
 | .bl _,_,h=>by unfold RD at *;exact h
 | .int _,_,h=>by unfold RD at *;exact h
 | .str _,_,h=>by unfold RD at *;exact h
 | .aD n,v,h=>by
  unfold RD at *;obtain⟨b,e,h⟩:=h;exact⟨b,e,by rw[jq (bV.mp h).1];exact h⟩
 | .tup ds,v,h=>by unfold RD at *;obtain⟨b,xs,e,h,r⟩:=h;exact⟨b,xs,e,h,aT.wide ds xs r⟩
 | .ls ds,v,h=>by unfold RD at *;obtain⟨b,xs,e,h,r⟩:=h;exact⟨b,xs,e,h,aT.wide ds xs r⟩
theorem aT.wide{a:Addr}:∀(ds:List D)(vs:List V),aT K ads H ds vs->aT K (ads++[a]) H ds vs
 | [],_,h=>by unfold aT at *;exact h
 | d::ds,vs,h=>by unfold aT at *;obtain⟨x,r,e,h1,h2⟩:=h;exact⟨x,r,e,RD.wide d x h1,aT.wide ds r h2⟩
end
theorem bQ.wide{κ:Type}{a:Addr}:∀(ds:List (κ×D))(vs:List (κ×V)),bQ K ads H ds vs->bQ K (ads++[a]) H ds vs
 | [],_,h=>by unfold bQ at *;exact h
 | d::ds,vs,h=>by unfold bQ at *;obtain⟨x,r,e,h0,h1,h2⟩:=h;exact⟨x,r,e,h0,RD.wide d.2 x.2 h1,bQ.wide ds r h2⟩
theorem KA.wide{a b:Addr}{o:MO}(h:KA K ads H b o):KA K (ads++[a]) H b o:=by
 cases o with
 | lst ds=>obtain⟨xs,h,r⟩:=h;exact⟨xs,h,r.wide⟩
 | jG ds=>obtain⟨o,xs,h,r⟩:=h;exact⟨o,xs,h,r.wide⟩
 | dK ds=>obtain⟨xs,h,r⟩:=h;exact⟨xs,h,r.wide⟩
 | dT ds=>obtain⟨xs,h,r⟩:=h;exact⟨xs,h,r.wide⟩
 | dF ds=>obtain⟨o,xs,h,r⟩:=h;exact⟨o,xs,h,r.wide⟩
theorem aR.push{M:ag}{o:MO}{a:Addr}(m:aR K ads H M)(n:a∉ads)(h:KA K ads H a o):aR K (ads++[a]) H (M++[o]) where
  nd:=by
    rw[List.nodup_append]
    exact ⟨m.nd, by simp, fun x hx y hy => by have : y = a := by simpa using hy
                                              subst this;exact λz=>n (z▸hx)⟩
  len:=by simp[m.len]
  obj:=λi o' b e1 e2=>by
    by_cases hi:i<M.length
    · rw[jq hi]at e1;rw[jq (by rw[m.len];exact hi)]at e2;exact(m.obj i o' b e1 e2).wide
    · have VP : i = M.length := by
        have:=(bV.mp e1).1;simp at this;omega
      subst VP;rw[qw (aL _)]at e1;rw[qw (by rw[m.len];exact aL _)]at e2;simp[m.len]at e1 e2;subst e1 e2;exact h.wide
theorem aR.write{M:ag}{n:Nat}{a:Addr}{u o:MO}{ho:HO}(m:aR K ads H M)(e:M[n]?=some u)(ea:ads[n]?=some a)(nf:∀o x,H a≠some (.gh o x))(hn:KA K ads (br H a ho) a o):av ads ads H (br H a ho)/\aR K ads (br H a ho) (M.set n o):=by
  have z7:a∈ads:=gQ ea;obtain⟨o1,e1,nt⟩:=m.there z7
  have g : av ads ads H (br H a ho) := ⟨⟨[], by simp⟩, fun b h n => absurd h n, fun b x nb h => by rw [aj (by intro z; subst z; exact nb z7)]; exact h, fun b xs h => by
      rw[aj (λz=>by subst z;rw[e1]at h;exact nt xs (cU h))];exact h,λb o u h=>by rw[aj (λz=>by subst z;exact nf _ _ h)];exact h⟩
  refine⟨g,m.nd,by rw[jt];exact m.len,λi o' b x1 x2=>?_⟩;by_cases hi:i=n
  · subst hi;rw[ea]at x2;cases x2;rw[kS (bV.mp e).1]at x1;cases x1;exact hn
  · rw[jr (cK hi)]at x1
    have hb:b≠a:=λz=>by
      subst z;exact hi (Ag m.nd x2 ea)
    have h:=m.obj i o' b x1 x2
    cases o' with
    | lst ds=>obtain⟨xs,h,r⟩:=h;exact⟨xs,by rw[aj hb];exact h,g.qo _ _ r⟩
    | jG ds=>obtain⟨o,xs,h,r⟩:=h;exact⟨o,xs,by rw[aj hb];exact h,g.qo _ _ r⟩
    | dK ds=>obtain⟨xs,h,r⟩:=h;exact⟨xs,by rw[aj hb];exact h,g.DQ _ _ r⟩
    | dT ds=>obtain⟨xs,h,r⟩:=h;exact⟨xs,by rw[aj hb];exact h,g.DQ _ _ r⟩
    | dF ds=>obtain⟨o,xs,h,r⟩:=h;exact⟨o,xs,by rw[aj hb];exact h,g.DQ _ _ r⟩
end
mutual
noncomputable def cM(M:ag):Nat->D->Option PyData
 | _,.aJ=>some .none
 | _,.bl b=>some (.bool b)
 | _,.int i=>some (.int i)
 | _,.str s=>some (.str s)
 | 0,.tup _=>none
 | 0,.aD _=>none
 | 0,.ls _=>none
 | n+1,.ls ds=>(bC M n ds).map .list
 | n+1,.tup ds=>(bC M n ds).map .tuple
 | n+1,.aD k=>match M[k]? with
  | some (.lst ds)=>(bC M n ds).map .list
  | some (.jG ds)=>(bC M n ds).map .list
  | _=>none
noncomputable def bC(M:ag):Nat->List D->Option (List PyData)
 | _,[]=>some []
 | n,d::ds=>match cM M n d,bC M n ds with
  | some p,some ps=>some (p::ps)
  | _,_=>none
end
def iH(M:ag):W->Option PyData
 | .d x=>cM M 30 x
 | .lv ds=>(bC M 30 ds).map .list
inductive Ck where
 | add | sub | mul | fdiv | mod | pow
 deriving DecidableEq
inductive xP where
 | eq | ne | lt | le | gt | ge | qq | fc | isin | eJ
 deriving DecidableEq
inductive Ty where
 | int | bool | str | tuple | list | dict | none
 deriving DecidableEq
inductive Bi where
 | len | max2 | min2 | rC | list1 | tuple1 | iT | qr (t:Ty) | all1 | DR | nJ | min1 | DS | vH
 deriving DecidableEq
inductive Me where
 | append | insert | reverse | extend | remove | clear | pop
 deriving DecidableEq
inductive SK where
 | seq | fJ | Ah | enum | zip | DT | keys | vals
 deriving DecidableEq
mutual
inductive C where
 | fK (i:Nat)
 | bf (d:D)
 | bin (op:Ck) (a b:C)
 | cmp (op:xP) (a b:C)
 | chain (o1 o2:xP) (a b c:C)
 | di (cs:List C) | f_ (cs:List C) | neg (a:C)
 | ite (c:dZ) (a b:C)
 | tup (cs:List C) | lst (cs:List C)
 | sub (a b:C)
 | sQ (a:C) (lo hi:Option C)
 | yE (a:C) (k:Int)
 | call (f:Nat) (cs:List C)
 | bi (b:Bi) (cs:List C)
 | me (m:Me) (o:C) (cs:List C)
 | xI (ks:List Str) (cs:List C)
 | jU (tp:Bool) (cs:List C)
 | DU (x:Str) (v:Int)
 | fL (ng:Bool) (a:C)
 | comp (k:SK) (cV:List C) (tg:List Nat) (cond:Option dZ) (elt:C) (cD:List (Option Nat))
inductive dZ where
 | val (c:C) | di (ts:List dZ) | f_ (ts:List dZ) | neg (a:dZ)
end
instance (n:Nat):OfNat C n:=⟨.fK n⟩
abbrev C.kn(k:Int):C:=.bf (.int k)
abbrev C.ks(i:Nat)(k:Int):C:=.sub (.fK i) (.bf (.int k))
noncomputable def bN(M:ag):W->Option (Bool×List D)
 | .lv ds=>some (true,ds)
 | .d (.tup ds)=>some (false,ds)
 | .d (.ls ds)=>some (true,ds)
 | .d (.aD n)=>match M[n]? with
  | some (.lst ds)=>some (true,ds)
  | some (.jG ds)=>some (true,ds)
  | _=>none
 | _=>none
noncomputable def ff(M:ag):W->Option (List D)
 | .lv ds=>some ds
 | .d (.aD n)=>match M[n]? with
  | some (.lst ds)=>some ds
  | _=>none
 | _=>none
noncomputable def own:W->ag->bJ D
 | .d x,M=>.ok x M
 | .lv ds,M=>.ok (.aD M.length) (M++[.lst ds])
def Pf(ds:List D)(i:Int):Option D:=vv ds i
def cutD(ds:List D)(lo hi:Option Int):List D:=(ds.drop (HT.dw ds.length 0 lo)).take (HT.dw ds.length ds.length hi-HT.dw ds.length 0 lo)
def pq(op:Ck)(a b:W)(M:ag):bJ W :=
 match op,a,b with
 | .add,.d (.int i),.d (.int j)=>.ok (.d (.int (i+j))) M
 | .sub,.d (.int i),.d (.int j)=>.ok (.d (.int (i-j))) M
 | .mul,.d (.int i),.d (.int j)=>if (-(2 ^ 64)<i/\i<2 ^ 64)\/(-(2 ^ 64)<j/\j<2 ^ 64) then .ok (.d (.int (i*j))) M else .af
 | .fdiv,.d (.int i),.d (.int j)=>if 0<j/\j<1073741824 then .ok (.d (.int (i / j))) M else .af
 | .mod,.d (.int i),.d (.int j)=>if 0<j then .ok (.d (.int (i % j))) M else .af
 | .pow,.d (.int i),.d (.int j)=>if 0<=j/\j<=1000000/\i.natAbs<2 ^ 64 then .ok (.d (.int (i ^ j.toNat))) M else .af
 | .add,.d (.tup xs),.d (.tup ys)=>if xs.length+ys.length<=sizeLine then .ok (.d (.tup (xs++ys))) M else .af
 | .add,a,b=>match ff M a,ff M b with
  | some xs,some ys=>if xs.length+ys.length<=sizeLine then .ok (.lv (xs++ys)) M else .af
  | _,_=>.af
 | .mul,a,.d (.int k)=>match ff M a with
  | some xs=>if -(2 ^ 63)<=k/\k<2 ^ 63/\xs.length*k.toNat<=sizeLine then .ok (.lv (List.replicate k.toNat xs).flatten) M else .af
  | none=>.af
 | _,_,_=>.af
noncomputable def jH(p:PyData):List PyData->Bool
 | []=>false
 | q::qs=>PyData.eqv q p||jH p qs
noncomputable def gV(M:ag):W->Option (List (bA×D))
 | .d (.aD n)=>match M[n]? with
  | some (.dK ao)=>some ao
  | _=>none
 | _=>none
noncomputable def tW:W->Option bA
 | .d (.int i)=>some (Sum.inl i)
 | .d (.str s)=>some (Sum.inr s)
 | _=>none
noncomputable def iU{κ:Type}[DecidableEq κ](ao:List (κ×D))(k:κ):Option D:=(ao.find? λp=>decide (p.1=k)).map (·.2)
def tX(M:ag)(kb:List (bA×D)):List (bA×D)->Option Bool
 | []=>some true
 | (k,v)::r=>match iU kb k with
  | none=>some false
  | some y=>match cM M 30 v,cM M 30 y with
   | some p,some q=>if SeqAt.shaped p=true/\SeqAt.shaped q=true then (tX M kb r).map (PyData.eqv p q && ·) else none
   | _,_=>none
def bg(op:xP)(a b:W)(M:ag):bJ Bool :=
 match op with
 | .eq=>match iH M a,iH M b with
  | some p,some q=>if SeqAt.shaped p=true/\SeqAt.shaped q=true then .ok (PyData.eqv p q) M else .af
  | _,_=>match gV M a,gV M b with
   | some ka,some kb=>match tX M kb ka with
    | some r=>.ok (ka.length==kb.length&&r) M
    | none=>.af
   | _,_=>.af
 | .ne=>match iH M a,iH M b with
  | some p,some q=>if SeqAt.shaped p=true/\SeqAt.shaped q=true then .ok (!PyData.eqv p q) M else .af
  | _,_=>.af
 | .lt=>match a,b with
  | .d (.int i),.d (.int j)=>.ok (decide (i<j)) M
  | .d (.str x),.d (.str y)=>.ok (decide (x.cps.toList<y.cps.toList)) M
  | _,_=>.af
 | .le=>match a,b with
  | .d (.int i),.d (.int j)=>.ok (decide (i<=j)) M
  | .d (.str x),.d (.str y)=>.ok (!decide (y.cps.toList<x.cps.toList)) M
  | _,_=>.af
 | .gt=>match a,b with
  | .d (.int i),.d (.int j)=>.ok (decide (j<i)) M
  | _,_=>.af
 | .ge=>match a,b with
  | .d (.int i),.d (.int j)=>.ok (decide (j<=i)) M
  | _,_=>.af
 | .qq=>match a with
  | .d .aJ=>.ok true M
  | _=>.ok false M
 | .fc=>match a with
  | .d .aJ=>.ok false M
  | _=>.ok true M
 | .isin=>match iH M a,bN M b with
  | some p,some (_,ds)=>match bC M 30 ds with
   | some qs=>if SeqAt.shaped p=true/\qs.all SeqAt.shaped=true then .ok (jH p qs) M else .af
   | none=>.af
  | _,none=>match tW a,gV M b with
   | some k,some ao=>.ok (iU ao k).isSome M
   | _,_=>.af
  | _,_=>.af
 | .eJ=>match iH M a,bN M b with
  | some p,some (_,ds)=>match bC M 30 ds with
   | some qs=>if SeqAt.shaped p=true/\qs.all SeqAt.shaped=true then .ok (!jH p qs) M else .af
   | none=>.af
  | _,none=>match tW a,gV M b with
   | some k,some ao=>.ok (!(iU ao k).isSome) M
   | _,_=>.af
  | _,_=>.af
def mU(M:ag):W->Option Bool
 | .d .aJ=>some false
 | .d (.bl b)=>some b
 | .d (.int i)=>some (i != 0)
 | w=>(bN M w).map λp=>!p.2.isEmpty
def cW(a b:W)(M:ag):bJ W :=
  match b with
  | .d (.int i)=>match bN M a with
    | some (_,ds)=>match Pf ds i with
      | some d=>.ok (.d d) M
      | none=>.af
    | none=>match a with
      | .d (.str s) => if s.length <= sizeLine then match vv s.cps.toList i with
          | some c=>.ok (.d (.str ⟨#[c]⟩)) M
          | none=>.af
        else .af
      | .d (.aD n)=>match M[n]? with
        | some (.dK ao)=>match iU ao (Sum.inl i:bA)with
          | some d=>.ok (.d d) M
          | none=>.af
        | _=>.af
      | _=>.af
  | .d (.str k)=>match a with
    | .d (.aD n)=>match M[n]? with
      | some (.dK ao)=>match (ao.find? λp=>decide (p.1=(Sum.inr k:bA))).map (·.2)with
        | some d=>.ok (.d d) M
        | none=>.af
      | _=>.af
    | _=>.af
  | _=>.af
def lB(a:W)(lo hi:Option Int)(M:ag):bJ W :=
 match bN M a with
 | some (true,ds)=>.ok (.lv (cutD ds lo hi)) M
 | some (false,ds)=>if HT.dw ds.length 0 lo=0/\HT.dw ds.length ds.length hi=ds.length then .af else .ok (.d (.tup (cutD ds lo hi))) M
 | none=>.af
def VQ:W->Option Int
 | .d (.int i)=>some i
 | _=>none
noncomputable def DV(M:ag):W->Option Ty
 | .lv _=>some .list
 | .d .aJ=>some .none
 | .d (.bl _)=>some .bool
 | .d (.int _)=>some .int
 | .d (.str _)=>some .str
 | .d (.tup _)=>some .tuple
 | .d (.ls _)=>none
 | .d (.aD n)=>match M[n]? with
  | some (.lst _)=>some .list
  | some (.jG _)=>some .list
  | some (.dK _)=>some .dict
  | some (.dT _)=>some .dict
  | some (.dF _)=>none
  | none=>none
noncomputable def HY:List D->Option (List Bool)
 | []=>some []
 | .bl b::ds=>(HY ds).map (b::·)
 | _::_=>none
noncomputable def rD:List D->Option (List Int)
 | []=>some []
 | .int b::ds=>(rD ds).map (b::·)
 | _::_=>none
noncomputable def cY{α:Type}(xs:List α)(k:Int):List α:=(List.range (Builtin.Slice.slicePlaces (Builtin.Slice.sliceAdjust none none k (xs.length:Int)).1 (Builtin.Slice.sliceAdjust none none k (xs.length:Int)).2 k)).filterMap λ(j:Nat)=>xs[((Builtin.Slice.sliceAdjust none none k (xs.length:Int)).1+(j:Int)*k).toNat]?
def jI(a:W)(k:Int)(M:ag):bJ W :=
 match a with
 | .d (.tup ds)=>if (k=2\/k=-1)/\(cY ds k).length<=sizeLine then .ok (.d (.tup (cY ds k))) M else .af
 | _=>.af
noncomputable def lC{κ:Type}[DecidableEq κ](ao:List (κ×D))(k:κ)(v:D):List (κ×D) :=
 if (ao.any λkv=>decide (kv.1=k))=true then ao.map (λkv=>if kv.1=k then (kv.1,v) else kv) else ao++[(k,v)]
noncomputable def pairD:D->Option (bA×D)
 | .tup [.int i,d]=>some (Sum.inl i,d)
 | .tup [.str x,d]=>some (Sum.inr x,d)
 | _=>none
def xQ(acc:List (bA×D)):List D->Option (List (bA×D))
 | []=>some acc
 | d::ds=>match pairD d with
  | some (k,x)=>xQ (lC acc k x) ds
  | none=>none
def kA(b:Bi)(ws:List W)(M:ag):bJ W :=
 match b,ws with
 | .len,[w]=>match bN M w with
  | some (_,ds)=>.ok (.d (.int ds.length)) M
  | none=>match w with
   | .d (.str x)=>if x.length<=sizeLine then .ok (.d (.int x.length)) M else .af
   | _=>.af
 | .all1,[w]=>match bN M w with
  | some (_,ds)=>match HY ds with
   | some bs=>.ok (.d (.bl (bs.all id))) M
   | none=>.af
  | none=>.af
 | .DR,[w]=>match bN M w with
  | some (_,ds)=>match HY ds with
   | some bs=>.ok (.d (.bl (bs.any id))) M
   | none=>.af
  | none=>.af
 | .vH,[w]=>match bN M w with
  | some (true,ds)=>match rD ds with
   | some is=>if is.length<64 then .ok (.lv ((L2.Mt is).map D.int)) M else .af
   | none=>.af
  | _=>.af
 | .min1,[w]=>match bN M w with
  | some (_,ds)=>match rD ds with
   | some (i::is)=>.ok (.d (.int (is.foldl (λa b=>if b<a then b else a) i))) M
   | _=>.af
  | none=>.af
 | .DS,[w]=>match bN M w with
  | some (_,ds)=>match rD ds with
   | some (i::is)=>.ok (.d (.int (is.foldl (λa b=>if a<b then b else a) i))) M
   | _=>.af
  | none=>.af
 | .max2,[.d (.int i),.d (.int j)]=>.ok (.d (.int (if j>i then j else i))) M
 | .min2,[.d (.int i),.d (.int j)]=>.ok (.d (.int (if j<i then j else i))) M
 | .rC,[.d (.int i)]=>.ok (.d (.int i)) M
 | .rC,[.d (.bl k)]=>.ok (.d (.int (if k then 1 else 0))) M
 | .list1,[w]=>match bN M w with
  | some (_,ds)=>.ok (.lv ds) M
  | none=>.af
 | .tuple1,[w]=>match bN M w with
  | some (_,ds)=>.ok (.d (.tup ds)) M
  | none=>.af
 | .iT,[w]=>match iH M w with
  | some p=>if p.showable=true/\p.depth<=40/\p.shown.length<=sizeLine then .ok (.d (.str p.shown)) M else .af
  | none=>.af
 | .nJ,[w]=>match gV M w with
  | some ao=>.ok (.d (.aD M.length)) (M++[.dK ao])
  | none=>match bN M w with
   | some (true,ds)=>match xQ [] ds with
    | some ao=>.ok (.d (.aD M.length)) (M++[.dK ao])
    | none=>.af
   | _=>.af
 | .qr t,[w]=>match DV M w with
  | some g=>.ok (.d (.bl (decide (g=t)||(decide (g=.bool)&&decide (t=.int))))) M
  | none=>.af
 | _,_=>.af
noncomputable def tY:List W->Option (Int×Int)
 | [.d (.int i),.d (.int j)]=>some (i,j)
 | [.d (.int j)]=>some (0,j)
 | _=>none
noncomputable def MG(i:Int)(n:Nat):List D:=(List.range n).map λk=>D.int (i+((k:Nat):Int))
noncomputable def Ai(tp:Bool)(ds:List D):W:=if tp=true then .d (.tup ds) else .lv ds
def DW(tp:Bool)(ws:List W)(M:ag):bJ W:=match tY ws with
 | some (i,j)=>if (-(2 ^ 62)<=i/\i<2 ^ 62/\-(2 ^ 62)<=j/\j<2 ^ 62)/\(j-i).toNat<=2 ^ 24 then .ok (Ai tp (MG i (j-i).toNat)) M else .af
 | none=>.af
def tZ(m:Me)(o:W)(ws:List D)(M:ag):bJ W :=
 match o with
 | .d (.aD n)=>match M[n]? with
  | some (.lst ds)=>match m,ws with
   | .append,[x]=>if ds.length<sizeLine then .ok (.d .aJ) (M.set n (.lst (ds++[x]))) else .af
   | .insert,[.int i,x]=>if ds.length<sizeLine/\0<=i/\i<=ds.length then .ok (.d .aJ) (M.set n (.lst (ds.take i.toNat++x::ds.drop i.toNat))) else .af
   | .reverse,[]=>.ok (.d .aJ) (M.set n (.lst ds.reverse))
   | .clear,[]=>.ok (.d .aJ) (M.set n (.lst []))
   | .pop,[]=>match ds[ds.length-1]? with
    | some d=>.ok (.d d) (M.set n (.lst ds.dropLast))
    | none=>.af
   | .extend,[.aD k]=>match M[k]? with
    | some (.lst es)=>if ds.length+es.length<=sizeLine then .ok (.d .aJ) (M.set n (.lst (ds++es))) else .af
    | _=>.af
   | .extend,[.tup es]=>if ds.length+es.length<=sizeLine then .ok (.d .aJ) (M.set n (.lst (ds++es))) else .af
   | .remove,[.int i]=>match rD ds with
    | some is=>if i∈is then .ok (.d .aJ) (M.set n (.lst ((is.erase i).map D.int))) else .af
    | none=>.af
   | _,_=>.af
  | _=>.af
 | _=>.af
inductive Z1 where
 | items (ds:List D) | at (n:Nat)
noncomputable def DX(M:ag):Z1->Option (List D)
 | .items ds=>some ds
 | .at n=>match M[n]? with
  | some (.lst ds)=>some ds
  | some (.jG ds)=>some ds
  | _=>none
def Tz(M:ag):W->Option Z1
 | .lv ds=>some (.items ds)
 | .d (.tup ds)=>some (.items ds)
 | .d (.ls ds)=>some (.items ds)
 | .d (.aD n)=>if (bN M (.d (.aD n))).isSome then some (.at n) else none
 | _=>none
noncomputable def MH(xs ys:List D)(i:Nat):Option D:=match xs[i]?,ys[i]? with
 | some x,some y=>some (.tup [x,y])
 | _,_=>none
inductive It where
 | at (n:Nat) | items (ds:List D) | jU (lo:Int) (n:Nat) | t6 (n:Nat) | lD (ds:List D) | zip (a b:Z1)
def itemAt(M:ag)(i:Nat):It->Option (Option D)
 | .at n=>match M[n]? with
  | some (.lst ds)=>some ds[i]?
  | some (.jG ds)=>some ds[i]?
  | _=>none
 | .items ds=>some ds[i]?
 | .jU lo n=>some (if i<n then some (.int (lo+i)) else none)
 | .t6 n=>match M[n]? with
  | some (.lst ds)=>some (ds[i]?.map λd=>.tup [.int i,d])
  | some (.jG ds)=>some (ds[i]?.map λd=>.tup [.int i,d])
  | _=>none
 | .lD ds=>some (ds[i]?.map λd=>.tup [.int i,d])
 | .zip a b=>match DX M a,DX M b with
  | some xs,some ys=>some (MH xs ys i)
  | _,_=>none
def dj(M:ag):It->Nat
 | .at n=>match M[n]? with
  | some (.lst ds)=>ds.length
  | some (.jG ds)=>ds.length
  | _=>0
 | .items ds=>ds.length
 | .jU _ n=>n
 | .t6 n=>match M[n]? with
  | some (.lst ds)=>ds.length
  | some (.jG ds)=>ds.length
  | _=>0
 | .lD ds=>ds.length
 | .zip a b=>match DX M a,DX M b with
  | some xs,some ys=>min xs.length ys.length
  | _,_=>0
def kD:bA->D
 | .inl i=>.int i
 | .inr x=>.str x
def MI(p:List bA×D):D:=.tup (p.1.map kD)
noncomputable def Aj:List D->Option (List bA)
 | []=>some []
 | .int i::ds=>(Aj ds).map (Sum.inl i::·)
 | .str x::ds=>(Aj ds).map (Sum.inr x::·)
 | _::_=>none
def Rr:W->Option (List bA)
 | .d (.tup ds)=>Aj ds
 | _=>none
noncomputable def Y6(M:ag):W->Option (List (List bA×D))
 | .d (.aD n)=>match M[n]? with
  | some (.dT ao)=>some ao
  | some (.dF ao)=>some ao
  | _=>none
 | _=>none
noncomputable def TB(a:W)(M:ag):bJ W:=match a with
 | .d (.aD n)=>match M[n]? with
  | some (.dT _)=>.ok (.d .aJ) (M.set n (.dT []))
  | _=>.af
 | _=>.af
def vI(a b:W)(d:D)(M:ag):bJ Unit:=match a with
 | .d (.aD n)=>match M[n]?,Rr b with
  | some (.dT ao),some k=>if ao.length<sizeLine then .ok () (M.set n (.dT (lC ao k d))) else .af
  | _,_=>.af
 | _=>.af
noncomputable def Rt(i:Int)(n:Nat):List D:=(List.range n).map λk=>.int (i-(k:Nat))
def lE(k:SK)(ws:List W)(M:ag):bJ It :=
 match k,ws with
 | .seq,[.lv ds]=>.ok (.items ds) M
 | .seq,[.d (.tup ds)]=>.ok (.items ds) M
 | .seq,[.d (.ls ds)]=>.ok (.items ds) M
 | .seq,[.d (.aD n)]=>if (bN M (.d (.aD n))).isSome then .ok (.at n) M else .af
 | .fJ,[.d (.int j)]=>if -(2 ^ 62)<=j/\j<2 ^ 62 then .ok (.jU 0 j.toNat) M else .af
 | .Ah,[.d (.int i),.d (.int j)]=>if -(2 ^ 62)<=i/\i<2 ^ 62/\-(2 ^ 62)<=j/\j<2 ^ 62 then .ok (.jU i (j-i).toNat) M else .af
 | .enum,[.lv ds]=>.ok (.lD ds) M
 | .enum,[.d (.tup ds)]=>.ok (.lD ds) M
 | .enum,[.d (.ls ds)]=>.ok (.lD ds) M
 | .enum,[.d (.aD n)]=>if (bN M (.d (.aD n))).isSome then .ok (.t6 n) M else .af
 | .DT,[.d (.int i),.d (.int j),.d (.int k)]=>if k=-1/\-(2 ^ 62)<=i/\i<2 ^ 62/\-(2 ^ 62)<=j/\j<2 ^ 62 then .ok (.items (Rt i (i-j).toNat)) M else .af
 | .keys,[.d (.aD n)]=>match M[n]? with
  | some (.dT ao)=>.ok (.items (ao.map MI)) (M.set n (.dF ao))
  | some (.dF ao)=>.ok (.items (ao.map MI)) M
  | _=>.af
 | .vals,[.d (.aD n)]=>match M[n]? with
  | some (.dT ao)=>.ok (.items (ao.map (·.2))) (M.set n (.dF ao))
  | some (.dF ao)=>.ok (.items (ao.map (·.2))) M
  | _=>.af
 | .zip,[u,v]=>match Tz M u,Tz M v with
  | some a,some b=>.ok (.zip a b) M
  | _,_=>.af
 | _,_=>.af
noncomputable def dk(tg:List Nat)(ds:List D)(ρ:En):Option En :=
 match tg,ds with
 | [],[]=>some ρ
 | i::tg,d::ds=>dk tg ds (ρ.set i (some d))
 | _,_=>none
def bO(tg:List Nat)(d:D)(ρ:En):Option En :=
 match tg with
 | [i]=>some (ρ.set i (some d))
 | _=>match d with
  | .tup ds=>dk tg ds ρ
  | _=>none
abbrev bc:=Nat->List D->ag->bJ W
def ef(cD:List (Option Nat))(ρ:En):En:=cD.map λo=>o.bind λj=>(ρ[j]?).join
def ba(cond:En->ag->bJ Bool)(elt:En->ag->bJ D)(it:It)(tg:List Nat):Nat->Nat->En->ag->List D->bJ W
  | 0,i,_,M,acc=>match itemAt M i it with
    | some none=>.ok (.lv acc) M
    | _=>.af
  | f+1,i,τ,M,acc=>match itemAt M i it with
    | some none=>.ok (.lv acc) M
    | some (some d)=>match bO tg d τ with
      | none=>.af
      | some τ => if acc.length < sizeLine then
          (cond τ M).b0 λb M=>if b then (elt τ M).b0 λx M=>ba cond elt it tg f (i+1) τ M (acc++[x]) else ba cond elt it tg f (i+1) τ M acc
        else .af
    | none=>.af
noncomputable def vJ(ng:Bool)(x:W)(M:ag):bJ W:=match x with
 | .d (.bl b)=>.ok (.d (.bl (ng != b))) M
 | _=>.af
mutual
noncomputable def ev(G:bc):C->En->ag->bJ W
  | .fK i,ρ,M=>match ρ[i]? with
    | some (some d)=>.ok (.d d) M
    | _=>.af
  | .bf d,_,M=>.ok (.d d) M
  | .bin op a b,ρ,M=>(ev G a ρ M).bind λx M=>(ev G b ρ M).bind λy M=>pq op x y M
  | .cmp op a b,ρ,M=>(ev G a ρ M).bind λx M=>(ev G b ρ M).bind λy M=>(bg op x y M).bind λr M=>.ok (.d (.bl r)) M
  | .chain o1 o2 a b c, ρ, M => (ev G a ρ M).bind fun x M => (ev G b ρ M).bind fun y M => (bg o1 x y M).bind fun r M =>
      if r then (ev G c ρ M).bind λz M=>(bg o2 y z M).bind λr M=>.ok (.d (.bl r)) M else .ok (.d (.bl false)) M
  | .di cs,ρ,M=>g_ G cs ρ M
  | .f_ cs,ρ,M=>mV G cs ρ M
  | .neg a,ρ,M=>(ev G a ρ M).bind λx M=>match x with
    | .d (.bl r)=>.ok (.d (.bl (!r))) M
    | _=>.af
  | .ite c a b,ρ,M=>(dy G c ρ M).bind λr M=>if r then ev G a ρ M else ev G b ρ M
  | .tup cs,ρ,M=>(bx G cs ρ M).bind λds M=>if ds.length<=sizeLine then .ok (.d (.tup ds)) M else .af
  | .lst cs,ρ,M=>(bx G cs ρ M).bind λds M=>if ds.length<=sizeLine then .ok (.lv ds) M else .af
  | .sub a b,ρ,M=>(ev G a ρ M).bind λx M=>(ev G b ρ M).bind λy M=>cW x y M
  | .sQ a lo hi,ρ,M=>(ev G a ρ M).bind λx M=>(qt G lo ρ M).bind λl M=>(qt G hi ρ M).bind λh M=>lB x l h M
  | .yE a k,ρ,M=>(ev G a ρ M).bind λx M=>jI x k M
  | .call f cs,ρ,M=>(bx G cs ρ M).bind λds M=>G f ds M
  | .bi b cs,ρ,M=>(cX G cs ρ M).bind λws M=>kA b ws M
  | .me m o cs,ρ,M=>(ev G o ρ M).bind λx M=>if (ff M x).isSome then (bx G cs ρ M).bind λds M=>tZ m x ds M else .af
  | .xI ks cs,ρ,M=>(bx G cs ρ M).bind λds M=>if ks.length=ds.length then .ok (.d (.aD M.length)) (M++[.dK ((ks.map Sum.inr).zip ds)]) else .af
  | .jU tp cs,ρ,M=>(cX G cs ρ M).bind λws M=>DW tp ws M
  | .DU _ v,_,M=>.ok (.d (.int v)) M
  | .fL ng a,ρ,M=>(ev G a ρ M).bind λx M=>vJ ng x M
  | .comp k cV tg cond elt cD, ρ, M => (cX G cV ρ M).bind fun ws M => (lE k ws M).bind fun it M =>
      ba (λτ M=>bB G cond τ M) (λτ M=>(ev G elt τ M).bind own) it tg (dj M it) 0 (ef cD ρ) M []
noncomputable def dy(G:bc):dZ->En->ag->bJ Bool
 | .di ts,ρ,M=>eU G ts ρ M
 | .f_ ts,ρ,M=>eV G ts ρ M
 | .neg a,ρ,M=>(dy G a ρ M).bind λr M=>.ok (!r) M
 | .val c,ρ,M=>(ev G c ρ M).bind λw M=>match mU M w with
  | some r=>.ok r M
  | none=>.af
noncomputable def g_(G:bc):List C->En->ag->bJ W
 | [],_,_=>.af
 | c::cs,ρ,M=>(ev G c ρ M).bind λx M=>match cs,x with
  | [],x=>.ok x M
  | _,.d (.bl true)=>g_ G cs ρ M
  | _,.d (.bl false)=>.ok (.d (.bl false)) M
  | _,_=>.af
noncomputable def mV(G:bc):List C->En->ag->bJ W
 | [],_,_=>.af
 | c::cs,ρ,M=>(ev G c ρ M).bind λx M=>match cs,x with
  | [],x=>.ok x M
  | _,.d (.bl false)=>mV G cs ρ M
  | _,.d (.bl true)=>.ok (.d (.bl true)) M
  | _,_=>.af
noncomputable def eU(G:bc):List dZ->En->ag->bJ Bool
 | [],_,_=>.af
 | c::cs,ρ,M=>(dy G c ρ M).bind λx M=>match cs,x with
  | [],x=>.ok x M
  | _,true=>eU G cs ρ M
  | _,false=>.ok false M
noncomputable def eV(G:bc):List dZ->En->ag->bJ Bool
 | [],_,_=>.af
 | c::cs,ρ,M=>(dy G c ρ M).bind λx M=>match cs,x with
  | [],x=>.ok x M
  | _,false=>eV G cs ρ M
  | _,true=>.ok true M
noncomputable def bx(G:bc):List C->En->ag->bJ (List D)
 | [],_,M=>.ok [] M
 | c::cs,ρ,M=>((ev G c ρ M).bind own).bind λd M=>(bx G cs ρ M).bind λds M=>.ok (d::ds) M
noncomputable def cX(G:bc):List C->En->ag->bJ (List W)
 | [],_,M=>.ok [] M
 | c::cs,ρ,M=>(ev G c ρ M).bind λd M=>(cX G cs ρ M).bind λds M=>.ok (d::ds) M
noncomputable def qt(G:bc):Option C->En->ag->bJ (Option Int)
 | none,_,M=>.ok none M
 | some c,ρ,M=>(ev G c ρ M).bind λw M=>match w with
  | .d (.int i)=>.ok (some i) M
  | _=>.af
noncomputable def bB(G:bc):Option dZ->En->ag->bJ Bool
 | none,_,M=>.ok true M
 | some c,ρ,M=>dy G c ρ M
end
section
variable {G:bc} {lo hi:Option C} {cond:Option dZ}
theorem Ak : ev G (.fK i) ρ M = (match ρ[i]? with
    | some (some d)=>.ok (.d d) M
    | _=>.af):=rfl
theorem HZ:ev G (.bf d) u0 M=.ok (.d d) M:=rfl
theorem H_:ev G (.bin op a b) ρ M=(ev G a ρ M).bind λx M=>(ev G b ρ M).bind λy M=>pq op x y M:=rfl
theorem Al:ev G (.cmp op a b) ρ M=(ev G a ρ M).bind λx M=>(ev G b ρ M).bind λy M=>(bg op x y M).bind λr M=>.ok (.d (.bl r)) M:=rfl
theorem rE : ev G (.chain o1 o2 a b c) ρ M = ((ev G a ρ M).bind fun x M => (ev G b ρ M).bind fun y M => (bg o1 x y M).bind fun r M =>
      if r then (ev G c ρ M).bind λz M=>(bg o2 y z M).bind λr M=>.ok (.d (.bl r)) M else .ok (.d (.bl false)) M):=rfl
theorem DY:ev G (.di cs) ρ M=g_ G cs ρ M:=rfl
theorem DZ:ev G (.f_ cs) ρ M=mV G cs ρ M:=rfl
theorem Ia : ev G (.neg a) ρ M = ((ev G a ρ M).bind fun x M => match x with
    | .d (.bl r)=>.ok (.d (.bl (!r))) M
    | _=>.af):=rfl
theorem Am:ev G (.ite c a b) ρ M=(dy G c ρ M).bind λr M=>if r then ev G a ρ M else ev G b ρ M:=rfl
theorem An:ev G (.tup cs) ρ M=(bx G cs ρ M).bind λds M=>if ds.length<=sizeLine then .ok (.d (.tup ds)) M else .af:=rfl
theorem Ao:ev G (.lst cs) ρ M=(bx G cs ρ M).bind λds M=>if ds.length<=sizeLine then .ok (.lv ds) M else .af:=rfl
theorem Ib:ev G (.sub a b) ρ M=(ev G a ρ M).bind λx M=>(ev G b ρ M).bind λy M=>cW x y M:=rfl
theorem Ic:ev G (.sQ a lo hi) ρ M=(ev G a ρ M).bind λx M=>(qt G lo ρ M).bind λl M=>(qt G hi ρ M).bind λh M=>lB x l h M:=rfl
theorem Ie:ev G (.yE a k) ρ M=(ev G a ρ M).bind λx M=>jI x k M:=rfl
theorem vK:ev G (.call f cs) ρ M=(bx G cs ρ M).bind λds M=>G f ds M:=rfl
theorem Ap:ev G (.bi b cs) ρ M=(cX G cs ρ M).bind λws M=>kA b ws M:=rfl
theorem Aq:ev G (.me m o cs) ρ M=(ev G o ρ M).bind λx M=>if (ff M x).isSome then (bx G cs ρ M).bind λds M=>tZ m x ds M else .af:=rfl
theorem t7:ev G (.xI ks cs) ρ M=(bx G cs ρ M).bind λds M=>if ks.length=ds.length then .ok (.d (.aD M.length)) (M++[.dK ((ks.map Sum.inr).zip ds)]) else .af:=rfl
theorem Ig:ev G (.jU tp cs) ρ M=(cX G cs ρ M).bind λws M=>DW tp ws M:=rfl
theorem Ih:ev G (.DU u0 v) u1 M=.ok (.d (.int v)) M:=rfl
theorem vL:ev G (.fL ng a) ρ M=(ev G a ρ M).bind λx M=>vJ ng x M:=rfl
theorem pv : ev G (.comp k cV tg cond elt cD) ρ M = ((cX G cV ρ M).bind fun ws M => (lE k ws M).bind fun it M =>
      ba (λτ M=>bB G cond τ M) (λτ M=>(ev G elt τ M).bind own) it tg (dj M it) 0 (ef cD ρ) M []):=rfl
theorem Ar:dy G (.di ts) ρ M=eU G ts ρ M:=rfl
theorem As:dy G (.f_ ts) ρ M=eV G ts ρ M:=rfl
theorem D0:dy G (.neg a) ρ M=(dy G a ρ M).bind λr M=>.ok (!r) M:=rfl
theorem pw : dy G (.val c) ρ M = ((ev G c ρ M).bind fun w M => match mU M w with
    | some r=>.ok r M
    | none=>.af):=rfl
theorem jJ:g_ G [] u0 u1=.af:=rfl
theorem ip : g_ G (c :: cs) ρ M = ((ev G c ρ M).bind fun x M => match cs, x with
    | [],x=>.ok x M
    | _,.d (.bl true)=>g_ G cs ρ M
    | _,.d (.bl false)=>.ok (.d (.bl false)) M
    | _,_=>.af):=rfl
theorem lF:mV G [] u0 u1=.af:=rfl
theorem jK : mV G (c :: cs) ρ M = ((ev G c ρ M).bind fun x M => match cs, x with
    | [],x=>.ok x M
    | _,.d (.bl false)=>mV G cs ρ M
    | _,.d (.bl true)=>.ok (.d (.bl true)) M
    | _,_=>.af):=rfl
theorem jL:eU G [] u0 u1=.af:=rfl
theorem iq : eU G (c :: cs) ρ M = ((dy G c ρ M).bind fun x M => match cs, x with
    | [],x=>.ok x M
    | _,true=>eU G cs ρ M
    | _,false=>.ok false M):=rfl
theorem jM:eV G [] u0 u1=.af:=rfl
theorem ir : eV G (c :: cs) ρ M = ((dy G c ρ M).bind fun x M => match cs, x with
    | [],x=>.ok x M
    | _,false=>eV G cs ρ M
    | _,true=>.ok true M):=rfl
theorem fm:bx G [] u0 M=.ok [] M:=rfl
theorem eC:bx G (c::cs) ρ M=((ev G c ρ M).bind own).bind λd M=>(bx G cs ρ M).bind λds M=>.ok (d::ds) M:=rfl
theorem iV:cX G [] u0 M=.ok [] M:=rfl
theorem gI:cX G (c::cs) ρ M=(ev G c ρ M).bind λd M=>(cX G cs ρ M).bind λds M=>.ok (d::ds) M:=rfl
theorem lG:qt G none u0 M=.ok none M:=rfl
theorem lH : qt G (some c) ρ M = ((ev G c ρ M).bind fun w M => match w with
    | .d (.int i)=>.ok (some i) M
    | _=>.af):=rfl
end
section
variable [EX]
def Ii(K:Frag)(ads:List Addr)(kZ H:Hp):W->V->Prop
 | .d x,v=>RD K ads H x v
 | .lv ds,v=>∃a xs,v=.ref a/\kZ a=none/\H a=some (.lst xs)/\a∉ads/\aT K ads H ds xs
def jZ(K:Frag)(ads:List Addr)(H:Hp)(w:W)(M':ag)(Q:VK):Prop :=
 ∀v H' aq,av ads aq H H'->aR K aq H' M'->Ii K aq H H' w v->Q v H'
def Ij(K:Frag)(ads:List Addr)(H:Hp)(ds:List D)(M':ag)(Q:List V->Hp->Prop):Prop :=
 ∀vs H' aq,av ads aq H H'->aR K aq H' M'->aT K aq H' ds vs->Q vs H'
def MJ(K:Frag)(ads:List Addr)(H:Hp)(b:Bool)(M':ag)(Q:Bool->Hp->Prop):Prop :=
 ∀H' aq,av ads aq H H'->aR K aq H' M'->Q b H'
def cj(K:Frag)(ads:List Addr)(H:Hp)(Q:VK):bJ W->Prop
 | .ok w M=>jZ K ads H w M Q
 | .err x M=>EX.post K ads H x M
 | .af=>False
def rF(K:Frag)(ads:List Addr)(H:Hp)(Q:List V->Hp->Prop):bJ (List D)->Prop
 | .ok w M=>Ij K ads H w M Q
 | .err x M=>EX.post K ads H x M
 | .af=>False
def Cm(K:Frag)(ads:List Addr)(H:Hp)(Q:Bool->Hp->Prop):bJ Bool->Prop
 | .ok w M=>MJ K ads H w M Q
 | .err x M=>EX.post K ads H x M
 | .af=>False
structure SR (K:Frag) (ads:List Addr) (M:ag) (ρ:En) (σ:L2.St) (H:Hp):Prop where
 mem:aR K ads H M
 en:ME K ads H ρ σ
 ln:ρ.length=σ.length
def tE(K:Frag)(o:En->ag->bJ W):TE:=λσ H Q=>∃ads M ρ,SR K ads M ρ σ H/\cj K ads H Q (o ρ M)
def Cn(K:Frag)(o:En->ag->bJ (List D)):TA:=λσ H Q=>∃ads M ρ,SR K ads M ρ σ H/\rF K ads H Q (o ρ M)
def mK(K:Frag)(o:En->ag->bJ Bool):TT:=λσ H Q=>∃ads M ρ,SR K ads M ρ σ H/\Cm K ads H Q (o ρ M)
section
variable {K:Frag} {ads aq bU:List Addr} {H H' H2:Hp} {M M2:ag} {ρ:En} {σ:L2.St}
theorem Ii.rw{kZ:Hp}{w:W}{v:V}(h:Ii K ads kZ H w v):RW K ads H w v:=by
 cases w with
 | d x=>exact h
 | lv ds=>obtain⟨a,xs,e,_,h1,n,r⟩:=h;exact⟨a,xs,e,h1,n,r⟩
theorem SR.grow(s:SR K ads M ρ σ H)(g:av ads aq H H')(m:aR K aq H' M2):SR K aq M2 ρ σ H':=⟨m,g.Tw s.en,s.ln⟩
theorem xR(g:av ads aq H H')(m:aR K ads H M)(m':aR K aq H' M2){a:Addr}(h:H' a=none):H a=none:=by
 by_cases hb:a∈ads
 ·have:a∈aq:=by obtain⟨r,e⟩:=g.pre;rw[e];exact Cv _ hb
  exact absurd this (m'.fresh h)
 ·cases q:H a with
  | none=>rfl
  | some o=>rw[g.kept a o hb q]at h;cases h
theorem Ii.back{w:W}{v:V}(g:av ads aq H H')(m:aR K ads H M)(m':aR K aq H' M2)(h:Ii K bU H' H2 w v):Ii K bU H H2 w v:=by
 cases w with
 | d x=>exact h
 | lv ds=>obtain⟨a,xs,e,h0,h1,n,r⟩:=h;exact⟨a,xs,e,xR g m m' h0,h1,n,r⟩
theorem jZ.shift{w:W}{Mw:ag}{Q:VK}(p:jZ K ads H w Mw Q)(g:av ads aq H H')(m:aR K ads H M)(m':aR K aq H' M2):jZ K aq H' w Mw Q :=
 λv H1 ai g1 m1 r=>p v H1 ai (g.trans g1) m1 (r.back g m m')
theorem cj.shift{o:bJ W}{Q:VK}(p:cj K ads H Q o)(g:av ads aq H H')(m:aR K ads H M)(m':aR K aq H' M2):cj K aq H' Q o:=by
 cases o with
 | ok w Mw=>exact jZ.shift p g m m'
 | err _ _=>exact EX.shift p g
 | af=>exact p
theorem Cm.shift{o:bJ Bool}{Q:Bool->Hp->Prop}(p:Cm K ads H Q o)(g:av ads aq H H'):Cm K aq H' Q o:=by
 cases o with
 | ok w Mw=>exact λH1 ai g1 m1=>p H1 ai (g.trans g1) m1
 | err _ _=>exact EX.shift p g
 | af=>exact p
theorem cj.imp{e1 e2:EX}(im:∀{K:Frag}{ads:List Addr}{H:Hp}{x:vG}{M:ag},e1.post K ads H x M->e2.post K ads H x M){o:bJ W}{Q:VK}(p:@cj e1 K ads H Q o):@cj e2 K ads H Q o:=by
 cases o with
 | ok w Mw=>exact p
 | err _ _=>exact im p
 | af=>exact p
theorem dm{o:En->ag->bJ W}{k:W->ag->bJ W}{Q:VK}{R:V->Hp->Prop}(s:SR K ads M ρ σ H)(h:cj K ads H Q ((o ρ M).bind k))(hk:∀w M1 v H1 ai,SR K ai M1 ρ σ H1->RW K ai H1 w v->cj K ai H1 Q (k w M1)->R v H1):tE K o σ H R:=by
 refine⟨ads,M,ρ,s,?_⟩
 cases q:o ρ M with
 | ok w M1 =>
  rw[q]at h;have h:cj K ads H Q (k w M1):=h;exact λv H1 ai g1 m1 r=>hk w M1 v H1 ai (s.grow g1 m1) r.rw (h.shift g1 s.mem m1)
 | err _ _=>rw[q]at h;exact h
 | af=>rw[q]at h;exact h
theorem two{oa ob:En->ag->bJ W}{f:W->W->ag->bJ W}{r:R2}{Q:VK}(hr:∀ {ads M H x y vx vy Q},aR K ads H M->RW K ads H x vx->RW K ads H y vy->cj K ads H Q (f x y M)->r vx vy H Q)(h:tE K (λρ M=>(oa ρ M).bind λx M=>(ob ρ M).bind λy M=>f x y M) σ H Q):C5 r (tE K oa) (tE K ob) σ H Q:=by
 obtain⟨ads,M,ρ,s,h⟩:=h;refine dm s h λw M1 v H1 ai s1 jo h1=>?_;refine⟨ai,M1,ρ,s1,?_⟩
 cases q:ob ρ M1 with
 | ok y M2 =>
  rw[q]at h1;have h1:cj K ai H1 Q (f w y M2):=h1;exact λvy H2 bU g2 m2 ry=>hr m2 (g2.rw jo) ry.rw (h1.shift g2 s1.mem m2)
 | err _ _=>rw[q]at h1;exact h1
 | af=>rw[q]at h1;exact h1
theorem cj.plain{Q:VK}{x:D}{v:V}(h:cj K ads H Q (.ok (.d x) M))(m:aR K ads H M)(r:RD K ads H x v):Q v H:=h v H ads (av.refl _ _) m r
theorem cj.list{Q:VK}{ds:List D}{xs:List V}(h:cj K ads H Q (.ok (.lv ds) M))(m:aR K ads H M)(r:aT K ads H ds xs){p:Addr}(hp:H p=none):Q (.ref p) (br H p (.lst xs)) :=
 h _ _ ads (av.dG m hp) (m.dG hp) ⟨p,xs,rfl,hp,aQ,m.fresh hp,(av.dG m hp).qo _ _ r⟩
theorem cj.tuple{Q:VK}{ds:List D}{xs:List V}(h:cj K ads H Q (.ok (.d (.tup ds)) M))(m:aR K ads H M)(r:aT K ads H ds xs){p:Addr}(hp:H p=none):Q (.ref p) (br H p (.tup xs)):=by
 refine h _ _ ads (av.dG m hp) (m.dG hp) ?_;show RD _ _ _ (.tup ds) _;unfold RD;exact⟨p,xs,rfl,aQ,(av.dG m hp).qo _ _ r⟩
theorem eK{w:W}{v:V}{l:Bool}{ds:List D}(m:aR K ads H M)(r:RW K ads H w v)(e:bN M w=some (l,ds)):∃a xs,v=.ref a/\aT K ads H ds xs/\((l=true/\gj K H a xs)\/(l=false/\gU K H a xs)):=by
 cases w with
 | lv es =>
  simp only[bN,qB,CP]at e;obtain⟨rfl,rfl⟩:=e;obtain⟨a,xs,e,h,n,r⟩:=r;exact⟨a,xs,e,r,.inl ⟨rfl,gj.of h⟩⟩
 | d x =>
  cases x with
  | tup es =>
   simp only[bN,qB,CP]at e;obtain⟨rfl,rfl⟩:=e;have r:RD K ads H (.tup es) v:=r;unfold RD at r;obtain⟨a,xs,e,h,r⟩:=r;exact⟨a,xs,e,r,.inr ⟨rfl,gU.of h⟩⟩
  | ls es =>
   simp only[bN,qB,CP]at e;obtain⟨rfl,rfl⟩:=e;have r:RD K ads H (.ls es) v:=r;unfold RD at r;obtain⟨a,xs,e,h,r⟩:=r;exact⟨a,xs,e,r,.inl ⟨rfl,h.sq⟩⟩
  | aD n =>
   have r:RD K ads H (.aD n) v:=r;unfold RD at r;obtain⟨a,ev,ea⟩:=r;simp only[bN]at e
   cases q:M[n]? with
   | none=>rw[q]at e;cases e
   | some o =>
    rw[q]at e;have ho:=m.obj n o a q ea
    cases o with
    | lst es=>cases e;obtain⟨xs,h,r⟩:=ho;exact⟨a,xs,ev,r,.inl ⟨rfl,gj.of h⟩⟩
    | jG es=>cases e;obtain⟨o,xs,h,r⟩:=ho;exact⟨a,xs,ev,r,.inl ⟨rfl,.inl (.inr ⟨o,h⟩)⟩⟩
    | dK _=>cases e
    | dT _=>cases e
    | dF _=>cases e
  | aJ=>cases e
  | bl _=>cases e
  | int _=>cases e
  | str _=>cases e
theorem lI{w:W}{v:V}{ds:List D}(m:aR K ads H M)(r:RW K ads H w v)(e:ff M w=some ds):∃a xs,v=.ref a/\aT K ads H ds xs/\H a=some (.lst xs):=by
 cases w with
 | lv es =>
  simp only[ff,qB]at e;subst e;obtain⟨a,xs,e,h,n,r⟩:=r;exact⟨a,xs,e,r,h⟩
 | d x =>
  cases x with
  | aD n =>
   have r:RD K ads H (.aD n) v:=r;unfold RD at r;obtain⟨a,ev,ea⟩:=r;simp only[ff]at e
   cases q:M[n]? with
   | none=>rw[q]at e;cases e
   | some o =>
    rw[q]at e;have ho:=m.obj n o a q ea
    cases o with
    | lst es=>cases e;obtain⟨xs,h,r⟩:=ho;exact⟨a,xs,ev,r,h⟩
    | jG es=>cases e
    | dK _=>cases e
    | dT _=>cases e
    | dF _=>cases e
  | tup _=>cases e
  | ls _=>cases e
  | aJ=>cases e
  | bl _=>cases e
  | int _=>cases e
  | str _=>cases e
theorem aU{i:Int}{v:V}(r:RW K ads H (.d (.int i)) v):v=.int i:=by
 have r:RD K ads H (.int i) v:=r;unfold RD at r;exact r
theorem d6{i:Str}{v:V}(r:RW K ads H (.d (.str i)) v):v=.str i:=by
 have r:RD K ads H (.str i) v:=r;unfold RD at r;exact r
theorem hG{i:Bool}{v:V}(r:RW K ads H (.d (.bl i)) v):v=.bl i:=by
 have r:RD K ads H (.bl i) v:=r;unfold RD at r;exact r
theorem lJ{v:V}(r:RW K ads H (.d .aJ) v):v=.aJ:=by
 have r:RD K ads H .aJ v:=r;unfold RD at r;exact r
theorem cN(i:Int):RD K ads H (.int i) (.int i):=by unfold RD;rfl
theorem j4(i:Bool):RD K ads H (.bl i) (.bl i):=by unfold RD;rfl
theorem t8(i:Str):RD K ads H (.str i) (.str i):=by unfold RD;rfl
theorem jN:RD K ads H .aJ .aJ:=by unfold RD;rfl
end
section
variable {X:Cx}
def Ru(K:Frag)(op:Ck):R2:=λx y H Q=>∃ads M wx wy,aR K ads H M/\RW K ads H wx x/\RW K ads H wy y/\cj K ads H Q (pq op wx wy M)
noncomputable def D1:Ck->Operator
 | .add=>.Add | .sub=>.Sub | .mul=>.Mult | .fdiv=>.FloorDiv | .mod=>.Mod | .pow=>.Pow
theorem D2:gY X (binaryOp .Add) (λx y H Q=>∃a b ys,x=.ref a/\y=.ref b/\gU X.K H a []/\gU X.K H b ys/\Q (.ref b) H):=by
 intro ae s σ H x y v u Q I rx ry h;obtain⟨a,b,ys,rfl,rfl,ha,hb,q⟩:=h;cases rx;cases ry;obtain⟨aC,r1,p1,_⟩:=I.tuple ha;obtain⟨zO,r2,p2,_⟩:=I.tuple hb;cases r1;obtain⟨⟨cls,dd,data,sl⟩,ho,hc,n,hd⟩:=id p1;obtain⟨⟨QJ,O5,data2,O6⟩,zK,yB,n2,hd2⟩:=id p2;simp only at hc hd yB hd2;subst hc hd yB hd2
 exact concat_meets ⟨_,ho,rfl⟩ ⟨_,zK,rfl⟩ noFill_tuple_add seq_tuple_add Gz Gx (Gv _ _)
  (tuple_addW0 a b _ zO.toArray n n2 dd O5 sl O6 rfl) ⟨ho,zK,⟨.ref b,H,I,rfl,q⟩⟩
theorem aT.rep{K:Frag}{ads:List Addr}{H:Hp}{ds:List D}{vs:List V}(r:aT K ads H ds vs):∀k:Nat,aT K ads H (List.replicate k ds).flatten (List.replicate k vs).flatten
 | 0=>by simp;unfold aT;rfl
 | k+1=>by simp only[wV,yO];exact r.app (aT.rep r k)
theorem Ik(op:Ck):gY X (binaryOp (D1 op)) (Ru X.K op):=by
 intro ae s σ H x y v u Q I rx ry h;obtain⟨ads,M,wx,wy,m,r1,r2,h⟩:=h
 have MK:∀ {op},op=Ck.add->cj X.K ads H Q (match ff M wx,ff M wy with
  | some xs,some ys=>if xs.length+ys.length<=sizeLine then .ok (.lv (xs++ys)) M else .af
  | _,_=>.af)->wpAny (model X.prog X.w) X.A (binaryOp (D1 op) v u) (EP X ae σ Q) X.xe s:=by
  intro op e h;subst e
  cases q1:ff M wx with
  | none=>rw[q1]at h;exact h.elim
  | some xs =>
   cases q2:ff M wy with
   | none=>rw[q1,q2]at h;exact h.elim
   | some ys =>
    rw[q1,q2]at h;dsimp only at h;split at h
    ·rename_i hz
     obtain⟨a,vs,e1,ra,ha⟩:=lI m r1 q1;obtain⟨b,ws,e2,rb,hb⟩:=lI m r2 q2;subst e1 e2;refine HH ae s σ H _ _ v u Q I rx ry ⟨a,b,vs,ws,rfl,rfl,ha,hb,by rw[<- ra.len,<- rb.len];exact hz,λp hp=>h.list m (ra.app rb) hp⟩
    ·exact h.elim
 unfold pq at h;split at h
 ·rw[aU r1]at rx;rw[aU r2]at ry;exact Hi ae s σ H _ _ v u Q I rx ry ⟨_,_,rfl,rfl,h.plain m (cN _)⟩
 ·rw[aU r1]at rx;rw[aU r2]at ry;exact Hj ae s σ H _ _ v u Q I rx ry ⟨_,_,rfl,rfl,h.plain m (cN _)⟩
 ·rw[aU r1]at rx;rw[aU r2]at ry;split at h
  ·rename_i hc
   exact Hk ae s σ H _ _ v u Q I rx ry ⟨_,_,rfl,rfl,hc,h.plain m (cN _)⟩
  ·exact h.elim
 ·rw[aU r1]at rx;rw[aU r2]at ry;split at h
  ·rename_i hc
   exact C7 ae s σ H _ _ v u Q I rx ry ⟨_,_,rfl,rfl,hc,h.plain m (cN _)⟩
  ·exact h.elim
 ·rw[aU r1]at rx;rw[aU r2]at ry;split at h
  ·rename_i hc
   exact Hl ae s σ H _ _ v u Q I rx ry ⟨_,_,rfl,rfl,hc,h.plain m (cN _)⟩
  ·exact h.elim
 ·rw[aU r1]at rx;rw[aU r2]at ry;split at h
  ·rename_i hc
   exact Hm ae s σ H _ _ v u Q I rx ry ⟨_,_,rfl,rfl,hc,h.plain m (cN _)⟩
  ·exact h.elim
 ·rename_i xs ys
  split at h
  ·rename_i hc
   have r1:RD X.K ads H (.tup xs) x:=r1;have r2:RD X.K ads H (.tup ys) y:=r2;unfold RD at r1 r2;obtain⟨a,vs,e1,ha,ra⟩:=r1;obtain⟨b,ws,e2,hb,rb⟩:=r2;subst e1 e2;by_cases Rv:vs=[]
   ·have ex:xs=[]:=Gr (by rw[ra.len,Rv];rfl);subst ex Rv;refine D2 ae s σ H _ _ v u Q I rx ry ⟨a,b,ws,rfl,rfl,gU.of ha,gU.of hb,cj.plain (x:=.tup ys) h m ?_⟩;unfold RD;exact⟨b,ws,rfl,hb,rb⟩
   refine Dm ae s σ H _ _ v u Q I rx ry ⟨a,b,vs,ws,rfl,rfl,gU.of ha,gU.of hb,Rv,by rw[<- ra.len,<- rb.len];exact hc,λz=>?_,λ_ p hp=>h.tuple m (ra.app rb) hp⟩;have ey:ys=[]:=Gr (by rw[rb.len,z];rfl);subst ey;rw[qF]at h;refine h.plain m ?_;unfold RD;exact⟨a,vs,rfl,ha,ra⟩
  ·exact h.elim
 ·exact MK rfl h
 ·rename_i k _
  cases q1:ff M wx with
  | none=>rw[q1]at h;exact h.elim
  | some xs =>
   rw[q1]at h;dsimp only at h;split at h
   ·rename_i hz
    obtain⟨a,vs,e1,ra,ha⟩:=lI m r1 q1;subst e1;rw[aU r2]at ry;refine HI ae s σ H _ _ v u Q I rx ry ⟨a,k,vs,rfl,rfl,ha,hz.1,hz.2.1,by rw[<- ra.len];exact hz.2.2,λp hp=>h.list m (aT.rep ra k.toNat) hp⟩
   ·exact h.elim
 ·exact h.elim
end
end
section
variable [EX]
section
variable {X:Cx} {ae:List (Addr×Obj)} {σ:L2.St} {H:Hp} {s:Shared} {ads:List Addr} {M:ag}
theorem cL(I:Inv X ae σ H s)(n:Nat)(hA:∀d v u p,RD X.K ads H d v->RelV v u->cM M n d=some p->∃as,Reads s.heap u p as):∀(ds:List D)(vs:List V)(us:List Value)(ps:List PyData),aT X.K ads H ds vs->aP vs us->bC M n ds=some ps->∃as,ReadsAll s.heap us ps as
 | [],vs,us,ps,r,rv,e=>by
  unfold aT at r;subst r;cases rv;unfold bC at e;cases e;exact⟨[],.nil⟩
 | d::ds,vs,us,ps,r,rv,e=>by
  unfold aT at r;obtain⟨x,r',rfl,h1,h2⟩:=r
  cases rv with
  | cons rx rr =>
   unfold bC at e
   cases q1:cM M n d with
   | none=>rw[q1]at e;cases e
   | some p =>
    cases q2:bC M n ds with
    | none=>rw[q1,q2]at e;cases e
    | some qs =>
     rw[q1,q2]at e;cases e;obtain⟨as,k1⟩:=hA d x _ p h1 rx q1;obtain⟨bs,k2⟩:=cL I n hA ds r' _ qs h2 rr q2;exact⟨as++bs,.cons k1 k2⟩
theorem eW(I:Inv X ae σ H s)(m:aR X.K ads H M):∀(n:Nat)(d:D)(v:V)(u:Value)(p:PyData),RD X.K ads H d v->RelV v u->cM M n d=some p->∃as,Reads s.heap u p as:=by
 intro n
 induction n with
 | zero =>
  intro d v u p r rv e
  cases d with
  | aJ=>unfold RD at r;subst r;cases rv;unfold cM at e;cases e;exact⟨_,.none⟩
  | bl b=>unfold RD at r;subst r;cases rv;unfold cM at e;cases e;exact⟨_,.bool _⟩
  | int b=>unfold RD at r;subst r;obtain⟨t,rfl⟩:=rv;unfold cM at e;cases e;exact⟨_,.int _ _⟩
  | str b=>unfold RD at r;subst r;obtain⟨t,rfl⟩:=rv;unfold cM at e;cases e;exact⟨_,.str _ _⟩
  | tup _=>unfold cM at e;cases e
  | aD _=>unfold cM at e;cases e
  | ls _=>unfold cM at e;cases e
 | succ n ih =>
  intro d v u p r rv e
  cases d with
  | aJ=>unfold RD at r;subst r;cases rv;unfold cM at e;cases e;exact⟨_,.none⟩
  | bl b=>unfold RD at r;subst r;cases rv;unfold cM at e;cases e;exact⟨_,.bool _⟩
  | int b=>unfold RD at r;subst r;obtain⟨t,rfl⟩:=rv;unfold cM at e;cases e;exact⟨_,.int _ _⟩
  | str b=>unfold RD at r;subst r;obtain⟨t,rfl⟩:=rv;unfold cM at e;cases e;exact⟨_,.str _ _⟩
  | tup ds =>
   unfold RD at r;obtain⟨a,xs,rfl,hs,r⟩:=r;cases rv;unfold cM at e
   cases q:bC M n ds with
   | none=>rw[q]at e;cases e
   | some ps =>
    rw[q]at e;cases e;obtain⟨aC,rv,⟨o,h1,h2,k,h3⟩,_⟩:=I.tuple (gU.of (K:=X.K) hs);obtain⟨as,ra⟩:=cL I n ih ds xs aC ps r rv q;exact⟨as,.tuple h1 h2 h3 (by simpa using ra)⟩
  | ls ds =>
   unfold RD at r;obtain⟨a,xs,rfl,hs,r⟩:=r;cases rv;unfold cM at e
   cases q:bC M n ds with
   | none=>rw[q]at e;cases e
   | some ps =>
    rw[q]at e;cases e;obtain⟨aC,rv,⟨o,kk,h1,h2,h3,h4⟩,_⟩:=I.list hs.sq;obtain⟨as,ra⟩:=cL I n ih ds xs aC ps r rv q;exact⟨a::as,.list h1 h2 h4 (by simpa using ra)⟩
  | aD k =>
   unfold RD at r;obtain⟨a,rfl,ea⟩:=r;cases rv;unfold cM at e
   have lst:∀ds,gj X.K H a ds->∀es,aT X.K ads H es ds->(bC M n es).map PyData.list=some p->∃as,Reads s.heap (.ref a) p as:=by
    intro xs hs es r e
    cases q:bC M n es with
    | none=>rw[q]at e;cases e
    | some ps =>
     rw[q]at e;cases e;obtain⟨aC,rv,⟨o,kk,h1,h2,h3,h4⟩,_⟩:=I.list hs;obtain⟨as,ra⟩:=cL I n ih es xs aC ps r rv q;exact⟨a::as,.list h1 h2 h4 (by simpa using ra)⟩
   cases q:M[k]? with
   | none=>rw[q]at e;cases e
   | some o =>
    rw[q]at e;have ho:=m.obj k o a q ea
    cases o with
    | lst es=>obtain⟨xs,h,r⟩:=ho;exact lst xs (gj.of h) es r e
    | jG es=>obtain⟨o,xs,h,r⟩:=ho;exact lst xs (.inl (.inr ⟨o,h⟩)) es r e
    | dK _=>cases e
    | dT _=>cases e
    | dF _=>cases e
theorem fM(I:Inv X ae σ H s)(m:aR X.K ads H M){w:W}{v:V}{u:Value}{p:PyData}(r:RW X.K ads H w v)(rv:RelV v u)(e:iH M w=some p):∃as,Reads s.heap u p as:=by
 cases w with
 | d x=>exact eW I m 30 x v u p r rv e
 | lv ds =>
  obtain⟨a,xs,rfl,h,n,r⟩:=r;cases rv;have e:(bC M 30 ds).map PyData.list=some p:=e
  cases q:bC M 30 ds with
  | none=>rw[q]at e;cases e
  | some ps =>
   rw[q]at e;cases e;obtain⟨aC,rv,⟨o,kk,h1,h2,h3,h4⟩,_⟩:=I.list (gj.of (K:=X.K) h);obtain⟨as,ra⟩:=cL I 30 (eW I m 30) ds xs aC ps r rv q;exact⟨a::as,.list h1 h2 h4 (by simpa using ra)⟩
end
section
variable {K:Frag} {ads:List Addr} {H:Hp}
theorem bQ.find{κ:Type}[DecidableEq κ]{k:κ}:∀{ao:List (κ×D)}{ks:List (κ×V)}{d:D},bQ K ads H ao ks->(ao.find? λp=>decide (p.1=k)).map (·.2)=some d->∃v,jB ks k=some v/\RD K ads H d v
 | [],_,_,_,e=>by cases e
 | p::ps,ks,d,r,e=>by
  unfold bQ at r;obtain⟨x,r',rfl,h0,h1,h2⟩:=r;by_cases hk:p.1=k
  ·have e':p.2=d:=by simpa[ie,hk]using e
   subst e';exact⟨x.2,iO (h0▸hk),h1⟩
  ·obtain⟨v,e1,rv⟩:=bQ.find h2 (by simpa[ie,hk]using e);exact⟨v,(gx (h0▸hk)).trans e1,rv⟩
theorem bQ.len{κ:Type}:∀{ao:List (κ×D)}{ks:List (κ×V)},bQ K ads H ao ks->ao.length=ks.length
 | [],_,r=>by unfold bQ at r;subst r;rfl
 | p::ps,ks,r=>by unfold bQ at r;obtain⟨x,r',rfl,h0,h1,h2⟩:=r;simp[bQ.len h2]
theorem bQ.Au{κ:Type}[DecidableEq κ]{k:κ}:∀{ao:List (κ×D)}{ks:List (κ×V)},bQ K ads H ao ks->iU ao k=none->jB ks k=none
 | [],_,r,_=>by unfold bQ at r;subst r;rfl
 | p::ps,ks,r,e=>by
  unfold bQ at r;obtain⟨x,r',rfl,h0,h1,h2⟩:=r;by_cases hk:p.1=k
  ·unfold iU at e;simp[ie,hk]at e
  ·exact(gx (h0▸hk)).trans (bQ.Au h2 (by unfold iU at e⊢;simpa[ie,hk]using e))
end
section
variable {X:Cx} {ae:List (Addr×Obj)} {σ:L2.St} {H:Hp} {s:Shared} {ads:List Addr} {M:ag}
theorem lK{w:W}{v:V}{ao:List (bA×D)}{K:Frag}(m:aR K ads H M)(r:RW K ads H w v)(e:gV M w=some ao):∃a ks,v=.ref a/\H a=some (.dK ks)/\bQ K ads H ao ks:=by
 cases w with
 | lv es=>cases e
 | d x =>
  cases x with
  | aD n =>
   have r:RD K ads H (.aD n) v:=r;unfold RD at r;obtain⟨a,ev,ea⟩:=r;simp only[gV]at e
   cases q:M[n]? with
   | none=>rw[q]at e;cases e
   | some o =>
    rw[q]at e;have ho:=m.obj n o a q ea
    cases o with
    | lst es=>cases e
    | jG es=>cases e
    | dK _=>cases e;obtain⟨ks,h,r⟩:=ho;exact⟨a,ks,ev,h,r⟩
    | dT _=>cases e
    | dF _=>cases e
  | tup _=>cases e
  | ls _=>cases e
  | aJ=>cases e
  | bl _=>cases e
  | int _=>cases e
  | str _=>cases e
theorem Av{w:W}{v:V}{k:bA}{K:Frag}(r:RW K ads H w v)(e:tW w=some k):v=kV k:=by
 cases w with
 | lv es=>cases e
 | d x =>
  cases x with
  | int i=>cases e;exact aU r
  | str i=>cases e;exact d6 r
  | aD _=>cases e
  | tup _=>cases e
  | ls _=>cases e
  | aJ=>cases e
  | bl _=>cases e
theorem vM{K:Frag}{ao:List (bA×D)}{ks:List (bA×V)}{a:Addr}{k:bA}(ha:H a=some (.dK ks))(r:bQ K ads H ao ks):∃o,kj H a (kV k) o/\o.isSome=(iU ao k).isSome:=by
 refine⟨_,kj.k (k:=k) ha,?_⟩
 cases q:iU ao k with
 | none=>rw[r.Au q];rfl
 | some d=>obtain⟨v,e,_⟩:=r.find q;rw[e];rfl
theorem vN(I:Inv X ae σ H s)(m:aR X.K ads H M)(hu:X.A.units+100<cLine){kb:List (bA×D)}{Rw:List (bA×V)}{Pg:List (bA×Value)}(rb:bQ X.K ads H kb Rw)(vb:KV Rw Pg):∀{ka:List (bA×D)}{ML:List (bA×V)}{KC:List (bA×Value)}{r:Bool},bQ X.K ads H ka ML->KV ML KC->tX M kb ka=some r->PySem.W.KeqHits X.A.in1 s Pg KC r
 | [],ML,KC,r,ra,va,e=>by
  unfold bQ at ra;subst ra;cases va;cases e;exact .nil
 | (k,d)::ka,ML,KC,r,ra,va,e=>by
  unfold bQ at ra;obtain⟨x,r',rfl,h0,h1,h2⟩:=ra;obtain⟨x1,x2⟩:=x;have h0:k=x1:=h0;subst h0;have h1:RD X.K ads H d x2:=h1
  cases va with
  | cons hp hr =>
   rename_i q vr
   obtain⟨q1,q2⟩:=q;obtain⟨e1,e2⟩:=hp;have e1:k=q1:=e1;subst e1;have e2:RelV x2 q2:=e2;have hv:=vb.val k;simp only[tX]at e
   cases hg:iU kb k with
   | none =>
    rw[hg]at e;cases e;rw[rb.Au hg]at hv;exact .miss (gp.none_of hv)
   | some y =>
    rw[hg]at e;dsimp only at e;obtain⟨v',Rx,Ph⟩:=rb.find hg;rw[Rx]at hv;obtain⟨u',eu,ru⟩:=gp.some_of hv
    cases p1:cM M 30 d with
    | none=>rw[p1]at e;cases e
    | some p =>
     cases p2:cM M 30 y with
     | none=>rw[p1,p2]at e;cases e
     | some p' =>
      rw[p1,p2]at e;dsimp only at e;split at e
      ·rename_i hs
       cases Pj:tX M kb ka with
       | none=>rw[Pj]at e;cases e
       | some b =>
        rw[Pj]at e;have e:(PyData.eqv p p'&&b)=r:=cU e;subst e;obtain⟨as,VR⟩:=eW I m 30 d x2 q2 p h1 e2 p1;obtain⟨bs,VS⟩:=eW I m 30 y v' u' p' Ph ru p2;exact .hit eu (PySem.W.keq_at VR VS hs.1 hs.2 (by show X.A.units+1+64<cLine;omega)) (vN I m hu rb vb h2 hr Pj)
      ·cases e
end
noncomputable def Il:xP->CmpOp
 | .eq=>.Eq | .ne=>.NotEq | .lt=>.Lt | .le=>.LtE | .gt=>.Gt | .ge=>.GtE | .qq=>.Is | .fc=>.IsNot | .isin=>.In | .eJ=>.NotIn
def D3(K:Frag)(ads:List Addr)(H:Hp)(Q:VK):bJ Bool->Prop
 | .ok b M=>∀H' aq,av ads aq H H'->aR K aq H' M->Q (.bl b) H'
 | .err x M=>EX.post K ads H x M
 | .af=>False
def D4(K:Frag)(op:xP):R2:=λx y H Q=>∃ads M wx wy,aR K ads H M/\RW K ads H wx x/\RW K ads H wy y/\((op=.qq\/op=.fc)->y=.aJ)/\D3 K ads H Q (bg op wx wy M)
theorem D3.now{K:Frag}{ads:List Addr}{H:Hp}{Q:VK}{b:Bool}{M:ag}(h:D3 K ads H Q (.ok b M))(m:aR K ads H M):Q (.bl b) H:=h H ads (av.refl _ _) m
section
variable {X:Cx}
open Classical in
noncomputable def rG(h:Heap)(p:PyData)(y:Value):Bool:=decide (∃q' TC,Reads h y q' TC/\PyData.eqv q' p=true)
open Classical in
theorem rH{h:Heap}{p q:PyData}{y:Value}{cs:List Addr}(ry:Reads h y q cs):rG h p y=PyData.eqv q p:=by
 unfold rG
 cases hb:PyData.eqv q p with
 | true=>exact e5 ⟨q,cs,ry,hb⟩
 | false =>
  refine eh ?_;rintro⟨q',TC,VT,MM⟩;obtain⟨e,_⟩:=PyProof.Rows.reads_det (λ_ _ e _=>e) ry VT;rw[<- e,MM]at hb;cases hb
theorem Aw{s:Shared}{A:Around}{x:Value}{p:PyData}{as:List Addr}(rx:Reads s.heap x p as)(hx:SeqAt.shaped p=true)(hu:A.units+65<cLine):∀{us:List Value}{qs:List PyData}{bs:List Addr},ReadsAll s.heap us qs bs->qs.all SeqAt.shaped=true->(∀y∈us,SeqAt.EqAt A.in1 s y x (rG s.heap p y))/\us.any (rG s.heap p)=jH p qs
 | _,_,_,.nil,_=>⟨(λy hy=>by cases hy),rfl⟩
 | _,_,_,.cons (v:=v) (d:=q) ry rr,hq=>by
  rw[List.all_cons,aK]at hq;have MM:=hq;obtain⟨k1,k2⟩:=Aw rx hx hu rr MM.2;have e0:=SeqAt.eqAt_reads q p A.in1 s v x _ _ ry rx (SeqAt.canLay_of_shaped MM.1) (SeqAt.canLay_of_shaped hx) (SeqAt.room_of_shaped MM.1 (by show A.units+1+64<cLine;omega));rw[<- rH ry]at e0;refine⟨λy hy=>?_,?_⟩
  ·rcases bS.mp hy with z | z
   ·subst z;exact e0
   ·exact k1 y z
  ·rw[y3,k2,rH ry];rfl
theorem kB{s:Shared}{A:Around}{x:Value}{p:PyData}{as:List Addr}(rx:Reads s.heap x p as)(hx:SeqAt.shaped p=true)(hu:A.units+65<cLine){us:List Value}{qs:List PyData}{bs:List Addr}(r:ReadsAll s.heap us qs bs)(hq:qs.all SeqAt.shaped=true):∃e:Value->Bool,(∀y∈us,SeqAt.EqAt A.in1 s y x (e y))/\us.any e=jH p qs :=
 ⟨rG s.heap p,Aw rx hx hu r hq⟩
theorem xS:gY X (compareOp .LtE) (λx y H Q=>∃i j,x=.str i/\y=.str j/\Q (.bl (!decide (j.cps.toList<i.cps.toList))) H):=by
 intro ae s σ H x y v u Q I rx ry h;obtain⟨i,j,rfl,rfl,q⟩:=h;obtain⟨t,rfl⟩:=rx;obtain⟨t',rfl⟩:=ry;exact PySem.P.le_str ⟨.bl _,H,I,rfl,q⟩
theorem jO(hu:X.A.units+100<cLine)(op:xP):gY X (compareOp (Il op)) (D4 X.K op):=by
 intro ae s σ H x y v u Q I rx ry h;obtain⟨ads,M,wx,wy,m,r1,r2,hn,h⟩:=h;unfold bg at h
 cases op with
 | eq =>
  dsimp only at h
  have FU:D3 X.K ads H Q (match gV M wx,gV M wy with
   | some ka,some kb=>match tX M kb ka with
    | some r=>.ok (ka.length==kb.length&&r) M
    | none=>.af
   | _,_=>.af)->wpAny (model X.prog X.w) X.A (compareOp .Eq v u) (EP X ae σ Q) X.xe s:=by
   intro h
   cases q1:gV M wx with
   | none=>rw[q1]at h;exact h.elim
   | some ka =>
    cases q2:gV M wy with
    | none=>rw[q1,q2]at h;exact h.elim
    | some kb =>
     rw[q1,q2]at h;dsimp only at h
     cases q3:tX M kb ka with
     | none=>rw[q3]at h;exact h.elim
     | some r =>
      rw[q3]at h;dsimp only at h;obtain⟨a,ML,rfl,ha,ra⟩:=lK m r1 q1;obtain⟨b,Rw,rfl,hb,rb⟩:=lK m r2 q2;cases rx;cases ry;obtain⟨za,VU,KC,va,VW⟩:=qR I.bt ha;obtain⟨zb,zC,Pg,vb,VX⟩:=qR I.bt hb;refine PySem.W.keq_eq VU zC VW VX ∅ (λ_=>vN I m hu rb vb ra va q3) ⟨.bl _,H,I,rfl,?_⟩;have e1:KC.length=ka.length:=by rw[<- va.length,ra.len]
      have e2:Pg.length=kb.length:=by rw[<- vb.length,rb.len]
      rw[e1,e2];exact h.now m
  cases q1:iH M wx with
  | none=>rw[q1]at h;exact FU h
  | some p =>
   cases q2:iH M wy with
   | none=>rw[q1,q2]at h;exact FU h
   | some q =>
    rw[q1,q2]at h;dsimp only at h;split at h
    ·rename_i hs
     obtain⟨as,ra⟩:=fM I m r1 rx q1;obtain⟨bs,rb⟩:=fM I m r2 ry q2;exact SeqAt.compareEq_shaped ra rb hs.1 hs.2 ∅ ⟨.bl _,H,I,rfl,h.now m⟩
    ·exact h.elim
 | ne =>
  dsimp only at h
  cases q1:iH M wx with
  | none=>rw[q1]at h;exact h.elim
  | some p =>
   cases q2:iH M wy with
   | none=>rw[q1,q2]at h;exact h.elim
   | some q =>
    rw[q1,q2]at h;dsimp only at h;split at h
    ·rename_i hs
     obtain⟨as,ra⟩:=fM I m r1 rx q1;obtain⟨bs,rb⟩:=fM I m r2 ry q2;exact SeqAt.compareNe_shaped ra rb hs.1 hs.2 ∅ ⟨.bl _,H,I,rfl,h.now m⟩
    ·exact h.elim
 | lt =>
  dsimp only at h;split at h
  ·rw[aU r1]at rx;rw[aU r2]at ry;exact LQ ae s σ H _ _ v u Q I rx ry ⟨_,_,rfl,rfl,h.now m⟩
  ·rw[d6 r1]at rx;rw[d6 r2]at ry;exact xu ae s σ H _ _ v u Q I rx ry ⟨_,_,rfl,rfl,h.now m⟩
  ·exact h.elim
 | le =>
  dsimp only at h;split at h
  ·rw[aU r1]at rx;rw[aU r2]at ry;exact LR ae s σ H _ _ v u Q I rx ry ⟨_,_,rfl,rfl,h.now m⟩
  ·rw[d6 r1]at rx;rw[d6 r2]at ry;exact xS ae s σ H _ _ v u Q I rx ry ⟨_,_,rfl,rfl,h.now m⟩
  ·exact h.elim
 | gt =>
  dsimp only at h;split at h
  ·rw[aU r1]at rx;rw[aU r2]at ry;exact LS ae s σ H _ _ v u Q I rx ry ⟨_,_,rfl,rfl,h.now m⟩
  ·exact h.elim
 | ge =>
  dsimp only at h;split at h
  ·rw[aU r1]at rx;rw[aU r2]at ry;exact LU ae s σ H _ _ v u Q I rx ry ⟨_,_,rfl,rfl,h.now m⟩
  ·exact h.elim
 | qq =>
  have e:=hn (.inl rfl)
  have hx:∀b,bg .qq wx wy M=.ok b M->b=decide (x=.aJ):=by
   intro b e;unfold bg at e;dsimp only at e;split at e
   ·cases e;rw[lJ r1];rfl
   ·rename_i vO
    cases e;refine(eh ?_).symm;intro z;subst z
    cases wx with
    | lv ds=>obtain⟨a,xs,e,_⟩:=r1;cases e
    | d z=>cases z with
     | aJ=>exact vO rfl
     | bl b=>have:=hG r1;cases this
     | int b=>have:=aU r1;cases this
     | str b=>have:=d6 r1;cases this
     | tup b=>have r1:RD X.K ads H (.tup b) .aJ:=r1;unfold RD at r1;obtain⟨a,xs,e,_⟩:=r1;cases e
     | aD b=>have r1:RD X.K ads H (.aD b) .aJ:=r1;unfold RD at r1;obtain⟨a,e,_⟩:=r1;cases e
     | ls b=>have r1:RD X.K ads H (.ls b) .aJ:=r1;unfold RD at r1;obtain⟨a,xs,e,_⟩:=r1;cases e
  subst e;have:∃b,bg .qq wx wy M=.ok b M:=by unfold bg;dsimp only;split<;>exact⟨_,rfl⟩
  obtain⟨b,hb⟩:=this;have h:D3 X.K ads H Q (bg .qq wx wy M):=h;rw[hb]at h;refine Hn ae s σ H _ _ v u Q I rx ry ⟨rfl,?_⟩;rw[<- hx b hb];exact h.now m
 | fc =>
  have e:=hn (.inr rfl)
  have hx:∀b,bg .fc wx wy M=.ok b M->b=!decide (x=.aJ):=by
   intro b e;unfold bg at e;dsimp only at e;split at e
   ·cases e;rw[lJ r1];rfl
   ·rename_i vO
    cases e
    have:decide (x=.aJ)=false:=by
     refine eh ?_;intro z;subst z
     cases wx with
     | lv ds=>obtain⟨a,xs,e,_⟩:=r1;cases e
     | d z=>cases z with
      | aJ=>exact vO rfl
      | bl b=>have:=hG r1;cases this
      | int b=>have:=aU r1;cases this
      | str b=>have:=d6 r1;cases this
      | tup b=>have r1:RD X.K ads H (.tup b) .aJ:=r1;unfold RD at r1;obtain⟨a,xs,e,_⟩:=r1;cases e
      | aD b=>have r1:RD X.K ads H (.aD b) .aJ:=r1;unfold RD at r1;obtain⟨a,e,_⟩:=r1;cases e
      | ls b=>have r1:RD X.K ads H (.ls b) .aJ:=r1;unfold RD at r1;obtain⟨a,xs,e,_⟩:=r1;cases e
    rw[this];rfl
  subst e;have:∃b,bg .fc wx wy M=.ok b M:=by unfold bg;dsimp only;split<;>exact⟨_,rfl⟩
  obtain⟨b,hb⟩:=this;have h:D3 X.K ads H Q (bg .fc wx wy M):=h;rw[hb]at h;refine C8 ae s σ H _ _ v u Q I rx ry ⟨rfl,?_⟩;rw[<- hx b hb];exact h.now m
 | isin =>
  dsimp only at h
  cases q2:bN M wy with
  | none =>
   rw[q2]at h
   have h:D3 X.K ads H Q (match tW wx,gV M wy with
    | some k,some ao=>.ok ((iU ao k).isSome) M
    | _,_=>.af):=by cases hp:iH M wx<;>rw[hp]at h<;>exact h
   cases q3:tW wx with
   | none=>rw[q3]at h;exact h.elim
   | some k =>
    cases q4:gV M wy with
    | none=>rw[q3,q4]at h;exact h.elim
    | some ao =>
     rw[q3,q4]at h;have ek:=Av r1 q3;subst ek;obtain⟨a,ks,rfl,ha,ra⟩:=lK m r2 q4;cases ry;obtain⟨o,g,eo⟩:=vM (k:=k) ha ra;refine QI ∅ I g rx λs' I'=>⟨.bl _,H,I',rfl,?_⟩;rw[eo];exact h.now m
  | some Ry =>
   cases q1:iH M wx with
   | none=>rw[q1,q2]at h;exact h.elim
   | some p =>
    obtain⟨l,ds⟩:=Ry;rw[q1,q2]at h;dsimp only at h
    cases q3:bC M 30 ds with
    | none=>rw[q3]at h;exact h.elim
    | some qs =>
     rw[q3]at h;dsimp only at h;split at h
     ·rename_i hs
      obtain⟨as,ra⟩:=fM I m r1 rx q1;obtain⟨a,xs,ea,rd,sq⟩:=eK m r2 q2;subst ea;cases ry;rcases sq with⟨_,sq⟩|⟨_,sq⟩
      ·obtain⟨aC,rv,pl,_⟩:=I.list sq;obtain⟨bs,rb⟩:=cL I 30 (eW I m 30) ds xs aC qs rd rv q3;obtain⟨e,he,t9⟩:=kB (A:=X.A) ra hs.1 ∅ rb hs.2;refine SeqAt.in_listAt e pl.isList (λy hy=>he y (by simpa using hy)) ⟨.bl _,H,I,rfl,?_⟩;have:aC.toArray.any e=jH p qs:=by rw[<- t9];simp
       rw[this];exact h.now m
      ·obtain⟨aC,rv,pl,_⟩:=I.tuple sq;obtain⟨bs,rb⟩:=cL I 30 (eW I m 30) ds xs aC qs rd rv q3;obtain⟨e,he,t9⟩:=kB (A:=X.A) ra hs.1 ∅ rb hs.2;refine SeqAt.in_tupleAt e (show s.heap.IsTuple a aC.toArray from pl) (λy hy=>he y (by simpa using hy)) ⟨.bl _,H,I,rfl,?_⟩;have:aC.toArray.any e=jH p qs:=by rw[<- t9];simp
       rw[this];exact h.now m
     ·exact h.elim
 | eJ =>
  dsimp only at h
  cases q2:bN M wy with
  | none =>
   rw[q2]at h
   have h:D3 X.K ads H Q (match tW wx,gV M wy with
    | some k,some ao=>.ok (!(iU ao k).isSome) M
    | _,_=>.af):=by cases hp:iH M wx<;>rw[hp]at h<;>exact h
   cases q3:tW wx with
   | none=>rw[q3]at h;exact h.elim
   | some k =>
    cases q4:gV M wy with
    | none=>rw[q3,q4]at h;exact h.elim
    | some ao =>
     rw[q3,q4]at h;have ek:=Av r1 q3;subst ek;obtain⟨a,ks,rfl,ha,ra⟩:=lK m r2 q4;cases ry;obtain⟨o,g,eo⟩:=vM (k:=k) ha ra;refine De ∅ I g rx λs' I'=>⟨.bl _,H,I',rfl,?_⟩;rw[eo];exact h.now m
  | some Ry =>
   cases q1:iH M wx with
   | none=>rw[q1,q2]at h;exact h.elim
   | some p =>
    obtain⟨l,ds⟩:=Ry;rw[q1,q2]at h;dsimp only at h
    cases q3:bC M 30 ds with
    | none=>rw[q3]at h;exact h.elim
    | some qs =>
     rw[q3]at h;dsimp only at h;split at h
     ·rename_i hs
      obtain⟨as,ra⟩:=fM I m r1 rx q1;obtain⟨a,xs,ea,rd,sq⟩:=eK m r2 q2;subst ea;cases ry;rcases sq with⟨_,sq⟩|⟨_,sq⟩
      ·obtain⟨aC,rv,pl,_⟩:=I.list sq;obtain⟨bs,rb⟩:=cL I 30 (eW I m 30) ds xs aC qs rd rv q3;obtain⟨e,he,t9⟩:=kB (A:=X.A) ra hs.1 ∅ rb hs.2;refine SeqAt.notIn_listAt e pl.isList (λy hy=>he y (by simpa using hy)) ⟨.bl _,H,I,rfl,?_⟩;have:aC.toArray.any e=jH p qs:=by rw[<- t9];simp
       rw[this];exact h.now m
      ·obtain⟨aC,rv,pl,_⟩:=I.tuple sq;obtain⟨bs,rb⟩:=cL I 30 (eW I m 30) ds xs aC qs rd rv q3;obtain⟨e,he,t9⟩:=kB (A:=X.A) ra hs.1 ∅ rb hs.2;refine SeqAt.notIn_tupleAt e (show s.heap.IsTuple a aC.toArray from pl) (λy hy=>he y (by simpa using hy)) ⟨.bl _,H,I,rfl,?_⟩;have:aC.toArray.any e=jH p qs:=by rw[<- t9];simp
       rw[this];exact h.now m
     ·exact h.elim
end
end
section
variable [EX]
section
variable {K:Frag} {ads:List Addr} {H:Hp} {M:ag}
theorem MN{w:W}{v:V}{k:Bool}(m:aR K ads H M)(r:RW K ads H w v)(e:mU M w=some k):zA K v H k:=by
 have seq:∀w,RW K ads H w v->((bN M w).map λp=>!p.2.isEmpty)=some k->zA K v H k:=by
  intro w r e
  cases q:bN M w with
  | none=>rw[q]at e;cases e
  | some p =>
   obtain⟨l,ds⟩:=p;rw[q]at e;have e:(!ds.isEmpty)=k:=cU e;obtain⟨a,xs,rfl,rd,sq⟩:=eK m r q;have hl:=rd.len
   have ex:k=!xs.isEmpty:=by
    rw[<- e];cases ds<;>cases xs<;>simp_all
   rcases sq with⟨_,sq⟩|⟨_,sq⟩
   ·exact .inl ⟨xs,sq,ex⟩
   ·exact .inr (.inl ⟨xs,sq,ex⟩)
 cases w with
 | lv ds=>exact seq _ r e
 | d x =>
  cases x with
  | aJ=>rw[lJ r];exact(cU e).symm
  | bl b=>rw[hG r];exact(cU e).symm
  | int i=>rw[aU r];exact(cU e).symm
  | str s=>exact seq _ r e
  | tup ds=>exact seq _ r e
  | aD n=>exact seq _ r e
  | ls n=>exact seq _ r e
theorem aT.vv{ds:List D}{xs:List V}{i:Int}{d:D}(r:aT K ads H ds xs)(e:L2.vv ds i=some d):∃v,L2.vv xs i=some v/\RD K ads H d v:=by
 unfold L2.vv at e⊢;rw[<- r.len]
 cases q:zP ds.length i with
 | none=>rw[q]at e;cases e
 | some j=>rw[q]at e;exact r.get e
theorem aT.cut{ds:List D}{xs:List V}{lo hi:Option Int}(r:aT K ads H ds xs):aT K ads H (cutD ds lo hi) (qU xs lo hi):=by
 unfold cutD qU;rw[<- r.len];exact(r.drop _).take _
theorem bQ.any{κ:Type}[DecidableEq κ]{k:κ}:∀{ao:List (κ×D)}{ks:List (κ×V)},bQ K ads H ao ks->(ao.any λkv=>decide (kv.1=k))=(ks.any λkv=>decide (kv.1=k))
 | [],_,r=>by unfold bQ at r;subst r;rfl
 | p::ps,ks,r=>by unfold bQ at r;obtain⟨x,r',rfl,h0,h1,h2⟩:=r;simp[bQ.any h2,h0]
theorem bQ.map{κ:Type}[DecidableEq κ]{k:κ}{d:D}{v:V}(rd:RD K ads H d v):∀{ao:List (κ×D)}{ks:List (κ×V)},bQ K ads H ao ks->bQ K ads H (ao.map λkv=>if kv.1=k then (kv.1,d) else kv) (ks.map λkv=>if kv.1=k then (kv.1,v) else kv)
 | [],_,r=>by unfold bQ at r;subst r;simp;unfold bQ;rfl
 | p::ps,ks,r=>by
  unfold bQ at r;obtain⟨x,r',rfl,h0,h1,h2⟩:=r;simp only[fC];unfold bQ;refine⟨_,_,rfl,?_,?_,bQ.map rd h2⟩
  ·rw[h0];split<;>first | rfl | exact h0
  ·rw[h0];split<;>first | exact rd | exact h1
theorem bQ.app{κ:Type}:∀{ao es:List (κ×D)}{ks fs:List (κ×V)},bQ K ads H ao ks->bQ K ads H es fs->bQ K ads H (ao++es) (ks++fs)
 | [],_,_,_,r,q=>by unfold bQ at r;subst r;exact q
 | p::ps,es,ks,fs,r,q=>by
  unfold bQ at r;obtain⟨x,r',rfl,h0,h1,h2⟩:=r;show bQ K ads H (p::(ps++es)) (x::(r'++fs));unfold bQ;exact⟨x,_,rfl,h0,h1,bQ.app h2 q⟩
theorem bQ.put{κ:Type}[DecidableEq κ]{k:κ}{d:D}{v:V}{ao:List (κ×D)}{ks:List (κ×V)}(r:bQ K ads H ao ks)(rd:RD K ads H d v):bQ K ads H (lC ao k d) (dW ks k v):=by
 unfold lC dW;rw[r.any (k:=k)];split
 ·exact bQ.map rd r
 ·refine r.app ?_;unfold bQ;exact⟨_,[],rfl,rfl,rd,by unfold bQ;rfl⟩
end
section
variable {X:Cx} {M':ag}
def LV(K:Frag):R2:=λx y H Q=>∃ads M wx wy,aR K ads H M/\RW K ads H wx x/\RW K ads H wy y/\cj K ads H Q (cW wx wy M)
theorem Im(hu:X.A.units+1<cLine):L6 X (LV X.K):=by
 intro value iQ ae s σ H x y v u Q I rx ry h hs;obtain⟨ads,M,wx,wy,m,r1,r2,h⟩:=h;unfold cW at h;split at h
 ·rename_i i
  have ey:=aU r2;subst ey
  cases q:bN M wx with
  | some p =>
   obtain⟨l,ds⟩:=p;rw[q]at h;dsimp only at h
   cases q2:Pf ds i with
   | none=>rw[q2]at h;exact h.elim
   | some d =>
    rw[q2]at h;obtain⟨a,xs,rfl,rd,sq⟩:=eK m r1 q;obtain⟨z,e2,rz⟩:=rd.vv q2;rcases sq with⟨_,sq⟩|⟨_,sq⟩
    ·exact Dp value iQ ae s σ H _ _ v u Q I rx ry ⟨a,xs,i,z,rfl,rfl,sq,e2,h.plain m rz⟩ hs
    ·exact HD value iQ ae s σ H _ _ v u Q I rx ry ⟨a,xs,i,z,rfl,rfl,sq,e2,h.plain m rz⟩ hs
  | none =>
   rw[q]at h;dsimp only at h;split at h
   ·split at h
    ·rename_i z hz
     have ex:=d6 r1;subst ex
     cases q2:L2.vv z.cps.toList i with
     | none=>rw[q2]at h;exact h.elim
     | some c =>
      rw[q2]at h;exact HE value iQ ae s σ H _ _ v u Q I rx ry ⟨_,i,c,rfl,rfl,hz,q2,h.plain m (t8 _)⟩ hs
    ·exact h.elim
   ·rename_i n
    have r1:RD X.K ads H (.aD n) x:=r1;unfold RD at r1;obtain⟨a,rfl,ea⟩:=r1;split at h
    ·rename_i ao q
     obtain⟨ks,hk,rk⟩:=m.obj n _ a q ea;split at h
     ·rename_i d q2
      obtain⟨z,e2,rz⟩:=rk.find (k:=Sum.inl i) q2;cases rx;have g:kj H a (kV (Sum.inl i)) (some z):=by have:=kj.k (k:=Sum.inl i) hk;rw[e2]at this;exact this
      exact tail_any (jV I g) F.slot_dict_getitem.lookup (nB hu I g ry λw' s' I' xD=>⟨z,H,I',xD,h.plain m rz⟩) hs
     ·exact h.elim
    ·exact h.elim
   ·exact h.elim
 ·rename_i k
  have ey:=d6 r2;subst ey;split at h
  ·rename_i n
   have r1:RD X.K ads H (.aD n) x:=r1;unfold RD at r1;obtain⟨a,rfl,ea⟩:=r1;split at h
   ·rename_i ao q
    obtain⟨ks,hk,rk⟩:=m.obj n _ a q ea;split at h
    ·rename_i d q2
     obtain⟨z,e2,rz⟩:=rk.find (k:=Sum.inr k) q2;cases rx;have g:kj H a (kV (Sum.inr k)) (some z):=by have:=kj.k (k:=Sum.inr k) hk;rw[e2]at this;exact this
     exact tail_any (jV I g) F.slot_dict_getitem.lookup (nB hu I g ry λw' s' I' xD=>⟨z,H,I',xD,h.plain m rz⟩) hs
    ·exact h.elim
   ·exact h.elim
  ·exact h.elim
 ·exact h.elim
def Rz(K:Frag):V->Option Int->Option Int->Hp->VK->Prop:=λx lo hi H Q=>∃ads M wx,aR K ads H M/\RW K ads H wx x/\cj K ads H Q (lB wx lo hi M)
theorem Io:O7 X (Rz X.K):=by
 intro ae s σ H x v vl vu lo hi sl Q I rx hs pl pu h;obtain⟨ads,M,wx,m,r1,h⟩:=h;unfold lB at h;split at h
 ·rename_i ds q
  obtain⟨a,xs,rfl,rd,sq⟩:=eK m r1 q;rcases sq with⟨_,sq⟩|⟨e,_⟩
  ·exact Dq ae s σ H _ v vl vu lo hi sl Q I rx hs pl pu ⟨a,xs,rfl,sq,λp hp=>h.list m rd.cut hp⟩
  ·cases e
 ·rename_i ds q
  obtain⟨a,xs,rfl,rd,sq⟩:=eK m r1 q;rcases sq with⟨e,_⟩|⟨_,sq⟩
  ·cases e
  ·split at h
   ·exact h.elim
   ·rename_i hw
    refine HC ae s σ H _ v vl vu lo hi sl Q I rx hs pl pu ⟨a,xs,rfl,sq,by rw[<- rd.len];exact hw,λp hp=>h.tuple m rd.cut hp⟩
 ·exact h.elim
theorem cj.Iq{K:Frag}{ads:List Addr}{H:Hp}{Q:VK}{M:ag}{ao:List (bA×D)}{ks:List (bA×V)}{p:Addr}(q:cj K ads H Q (.ok (.d (.aD M.length)) (M++[.dK ao])))(m:aR K ads H M)(hp:H p=none)(r:bQ K ads H ao ks):Q (.ref p) (br H p (.dK ks)):=by
 have pn:=m.fresh hp;have g0:av ads ads H (br H p (.dK ks)):=av.dG m hp;have m1:aR K ads (br H p (.dK ks)) M:=m.dG hp;have m2:=m1.push (o:=.dK ao) pn ⟨_,aQ,g0.DQ _ _ r⟩;refine q (.ref p) _ (ads++[p]) ⟨⟨[p],rfl⟩,λb hb nb=>?_,g0.kept,g0.eP,g0.gh⟩ m2 ?_
 ·rcases fX.mp hb with z | z
  ·exact absurd z nb
  ·have:b=p:=by simpa using z
   subst this;exact hp
 ·show RD K (ads++[p]) (br H p (.dK ks)) (.aD M.length) (.ref p);unfold RD;exact⟨p,rfl,by rw[qw (by rw[m.len];exact aL _)];simp[m.len]⟩
def FV(K:Frag)(ads:List Addr)(H:Hp):List W->List V->Prop
 | [],vs=>vs=[]
 | w::ws,vs=>∃v r,vs=v::r/\RW K ads H w v/\FV K ads H ws r
def Co(K:Frag)(b:Bi):List V->Hp->VK->Prop:=λvs H Q=>∃ads M ws,aR K ads H M/\FV K ads H ws vs/\cj K ads H Q (kA b ws M)
theorem FV.one{K:Frag}{ads:List Addr}{H:Hp}{w:W}{vs:List V}(r:FV K ads H [w] vs):∃v,vs=[v]/\RW K ads H w v:=by
 obtain⟨v,r,rfl,h,h2⟩:=r;have h2:r=[]:=h2;subst h2;exact⟨v,rfl,h⟩
theorem FV.two{K:Frag}{ads:List Addr}{H:Hp}{w w2:W}{vs:List V}(r:FV K ads H [w,w2] vs):∃v v2,vs=[v,v2]/\RW K ads H w v/\RW K ads H w2 v2:=by
 obtain⟨v,r,rfl,h,h2⟩:=r;obtain⟨v2,rfl,h3⟩:=FV.one h2;exact⟨v,v2,rfl,h,h3⟩
theorem iu(ps:List (bA×Value)):∀n,n<=ps.length->jX (λi=>ps.getD i (Sum.inl 0,.none)) n=(ps.take n).foldl (λacc p=>stored acc p.1 p.2) []
 | 0,_=>by simp[jX]
 | n+1,h=>by
  have hn:n<ps.length:=h;rw[List.take_add_one,cE hn,Option.toList_some,List.foldl_append,<- iu ps n (mO hn)];show stored _ _ _=stored _ _ _
  try simp only[kR,cE hn,Option.getD_some]
theorem vP:∀{qs:List (bA×V)}{ps:List (bA×Value)}{a:List (bA×V)}{b:List (bA×Value)},KV qs ps->KV a b->KV (qs.foldl (λacc p=>dW acc p.1 p.2) a) (ps.foldl (λacc p=>stored acc p.1 p.2) b)
 | [],_,a,b,r,k=>by cases r;exact k
 | q::qs,_,a,b,r,k=>by
  cases r with
  | cons h r =>
   rename_i p ps
   obtain⟨h1,h2⟩:=h;have k2:KV (dW a q.1 q.2) (stored b p.1 p.2):=by rw[<- h1];exact k.put q.1 h2
   exact vP (qs:=qs) (ps:=ps) r k2
theorem Ir{i:Int}{u:Value}(r:RelV (.int i) u):∃t,u=.int i t:=r
theorem Iu{x:Str}{u:Value}(r:RelV (.str x) u):∃t,u=.str x t:=r
theorem Ax{H0:Hp}{h:Heap}(ok:gS X.prog X.w H0 h){K:Frag}{ads:List Addr}:∀{ds:List D}{acc ao:List (bA×D)}{va:List (bA×V)}{ys:List V}{aC:List Value},xQ acc ds=some ao->bQ K ads H0 acc va->aT K ads H0 ds ys->aP ys aC->∃(ps:List (bA×Value)) (qs:List (bA×V)),ps.length=aC.length/\KV qs ps/\bQ K ads H0 ao (qs.foldl (λacc p=>dW acc p.1 p.2) va)/\∀i v,aC[i]?=some v->∃a uk,v=.ref a/\gn (ps.getD i (Sum.inl 0,.none)).1 uk=true/\IsTup h a #[uk,(ps.getD i (Sum.inl 0,.none)).2]
 | [],acc,ao,va,ys,aC,e,ra,rd,rv=>by
  cases e;unfold aT at rd;subst rd;cases rv;exact⟨[],[],rfl,.nil,ra,λi v h=>by simp at h⟩
 | d::ds,acc,ao,va,ys,aC,e,ra,rd,rv=>by
  unfold aT at rd;obtain⟨y,yr,rfl,r1,r2⟩:=rd
  cases rv with
  | cons hv rv =>
   rename_i u us
   unfold xQ at e
   cases hp:pairD d with
   | none=>rw[hp]at e;cases e
   | some kx =>
    obtain⟨k,x⟩:=kx;rw[hp]at e
    have main:∀kd:D,d=.tup [kd,x]->(∀z uz,RD K ads H0 kd z->RelV z uz->gn k uz=true)->∃(ps:List (bA×Value)) (qs:List (bA×V)),ps.length=(u::us).length/\KV qs ps/\bQ K ads H0 ao (qs.foldl (λacc p=>dW acc p.1 p.2) va)/\∀i v,(u::us)[i]?=some v->∃a uk,v=.ref a/\gn (ps.getD i (Sum.inl 0,.none)).1 uk=true/\IsTup h a #[uk,(ps.getD i (Sum.inl 0,.none)).2]:=by
     intro kd ed hk;subst ed;unfold RD at r1;obtain⟨a,xs,rfl,ha,rx⟩:=r1;unfold aT at rx;obtain⟨z,zr,rfl,rz,rx⟩:=rx;unfold aT at rx;obtain⟨z2,Y7,rfl,VY,rx⟩:=rx;unfold aT at rx;subst rx;obtain⟨_,VZ,tv,tt⟩:=ok a _ ha
     cases tv with
     | cons t1 tv =>
      cases tv with
      | cons t2 tv =>
       cases tv
       rename_i uk uv
       obtain⟨ps,qs,l,kk,rr,hh⟩:=Ax ok e (ra.put (k:=k) VY) r2 rv;refine⟨(k,uv)::ps,(k,z2)::qs,by simp[l],.cons ⟨rfl,t2⟩ kk,rr,λi v hi=>?_⟩
       cases i with
       | zero =>
        have hi:u=v:=by simpa using hi
        subst hi;have hu:u=.ref a:=hv;exact⟨a,uk,hu,hk z uk rz t1,tt⟩
       | succ i =>
        obtain⟨a',V0,q1,q2,q3⟩:=hh i v (by simpa using hi);exact⟨a',V0,q1,by simpa using q2,by simpa using q3⟩
    unfold pairD at hp;split at hp
    ·rename_i i dd
     cases hp;refine main _ rfl λz uz rz hz=>?_;unfold RD at rz;subst rz;obtain⟨t,rfl⟩:=Ir hz;exact m8 i t
    ·rename_i i dd
     cases hp;refine main _ rfl λz uz rz hz=>?_;unfold RD at rz;subst rz;obtain⟨t,rfl⟩:=Iu hz;exact m_ i t
    ·cases hp
theorem D5(hc:X.calm=true):dg X (.type "dict") (Co X.K .nJ):=by
 intro ae s σ H xs us Q I r h;obtain⟨ads,M,ws,m,rw,h⟩:=h;rcases ws with _|⟨w,_|⟨w2,ws⟩⟩
 ·exact h.elim
 ·obtain⟨v,rfl,rv⟩:=rw.one;unfold kA at h;dsimp only at h;split at h
  ·rename_i ao q
   obtain⟨a,ks,rfl,ha,ra⟩:=lK m rv q;obtain⟨u,rfl,ru⟩:=vals1 r;cases ru;obtain⟨z,hd,vs,va,dd⟩:=qR I.bt ha;refine kt_call_dict hd dd (by rw[<- va.length];exact z) λh' G0 hs=>?_
   have kp:∀b o',s.heap.get? b=some o'->h'.get? b=some o':=λb o' e=>by
    have hb:b≠s.heap.objs.size:=λz=>by subst z;exact absurd (bL e) (iJ _)
    rw[hs.2 b hb];exact cT _ e
   refine⟨.ref s.heap.objs.size,_,I.laid (t':=s.toks) (o:=.dK ks) kp (aL _) ?_,rfl,h.Iq m (I.bt.fresh (aL _)) ra⟩;exact⟨z,mL.mpr (cK (ej I.big)),vs,va,G0⟩
  ·split at h
   ·rename_i ds q
    split at h
    ·rename_i ao qp
     obtain⟨a,ys,rfl,rd,sq⟩:=eK m rv q;rcases sq with⟨_,sq⟩|⟨e,_⟩
     ·obtain⟨u,rfl,ru⟩:=vals1 r;cases ru;obtain⟨aC,vy,pl,hz⟩:=I.list sq;obtain⟨ps,qs,l,kk,rr,hh⟩:=Ax I.bt qp (va:=[]) (show bQ X.K ads H [] [] by unfold bQ;rfl) rd vy;refine DJ (I.ok.hd hc) pl (by rw[<- vy.length];exact hz) (λi=>ps.getD i (Sum.inl 0,.none)) hh λh' tk kp hd=>?_;rw[<- l,iu ps _ (aL _),oo]at hd;refine⟨.ref s.heap.objs.size,_,I.laid (t':=tk) (o:=.dK (qs.foldl (λacc p=>dW acc p.1 p.2) [])) kp (aL _) ?_,rfl,h.Iq m (I.bt.fresh (aL _)) rr⟩;have kf:=vP kk (a:=[]) (b:=[]) .nil;refine⟨?_,mL.mpr (cK (ej I.big)),_,kf,hd⟩;have l1:=yZ kf;have l2:=jF (λi=>ps.getD i (Sum.inl 0,.none)) ps.length;rw[iu ps _ (aL _),oo]at l2;rw[l1];exact cJ l2 (by rw[l,<- vy.length];exact hz)
     ·cases e
    ·exact h.elim
   ·exact h.elim
 ·exact h.elim
theorem Iv:dg X (.builtin "len") (Co X.K .len):=by
 intro ae s σ H xs us Q I r h;obtain⟨ads,M,ws,m,rw,h⟩:=h;rcases ws with _|⟨w,_|⟨w2,ws⟩⟩
 ·exact h.elim
 ·obtain⟨v,rfl,rv⟩:=rw.one;unfold kA at h;dsimp only at h;split at h
  ·rename_i l ds q
   obtain⟨a,ys,rfl,rd,sq⟩:=eK m rv q;refine oY ae s σ H _ us Q I r ⟨a,ys,rfl,?_,by rw[<- rd.len];exact h.plain m (cN _)⟩;rcases sq with⟨_,sq⟩|⟨_,sq⟩
   ·exact .inl sq
   ·exact .inr sq
  ·split at h
   ·split at h
    ·rename_i hz
     have e1:=d6 rv;subst e1;exact oZ ae s σ H _ us Q I r ⟨_,rfl,hz,h.plain m (cN _)⟩
    ·exact h.elim
   ·exact h.elim
 ·exact h.elim
theorem D6:dg X (.type "list") (Co X.K .list1):=by
 intro ae s σ H xs us Q I r h;obtain⟨ads,M,ws,m,rw,h⟩:=h;rcases ws with _|⟨w,_|⟨w2,ws⟩⟩
 ·exact h.elim
 ·obtain⟨v,rfl,rv⟩:=rw.one;unfold kA at h;dsimp only at h;split at h
  ·rename_i l ds q
   obtain⟨a,ys,rfl,rd,sq⟩:=eK m rv q;refine o_ ae s σ H _ us Q I r ⟨a,ys,rfl,?_,λp hp=>h.list m rd hp⟩;rcases sq with⟨_,sq⟩|⟨_,sq⟩
   ·exact .inl sq
   ·exact .inr sq
  ·exact h.elim
 ·exact h.elim
theorem Ay:dg X (.type "tuple") (Co X.K .tuple1):=by
 intro ae s σ H xs us Q I r h;obtain⟨ads,M,ws,m,rw,h⟩:=h;rcases ws with _|⟨w,_|⟨w2,ws⟩⟩
 ·exact h.elim
 ·obtain⟨v,rfl,rv⟩:=rw.one;unfold kA at h;dsimp only at h;split at h
  ·rename_i l ds q
   have hq:=q;obtain⟨a,ys,rfl,rd,sq⟩:=eK m rv q;rcases sq with⟨_,sq⟩|⟨el,sq⟩
   ·exact g8 ae s σ H _ us Q I r ⟨a,ys,rfl,.inl ⟨sq,λp hp=>h.tuple m rd hp⟩⟩
   ·refine g8 ae s σ H _ us Q I r ⟨a,ys,rfl,.inr ⟨sq,h.plain m ?_⟩⟩;subst el
    cases w with
    | lv es=>cases hq
    | d x =>
     cases x with
     | tup es =>
      have e:es=ds:=by simpa[bN]using hq
      subst e;exact rv
     | aD n =>
      simp only[bN]at hq;split at hq<;>cases hq
     | ls _=>cases hq
     | aJ=>cases hq
     | bl _=>cases hq
     | int _=>cases hq
     | str _=>cases hq
  ·exact h.elim
 ·exact h.elim
theorem Iw(hc:X.calm=true):dg X (.builtin "max") (Co X.K .max2):=by
 intro ae s σ H xs us Q I r h;obtain⟨ads,M,ws,m,rw,h⟩:=h;rcases ws with _|⟨w,_|⟨w2,_|⟨w3,ws⟩⟩⟩
 ·exact h.elim
 ·rcases w with⟨_|_|_|_|_|_⟩|_<;>exact h.elim
 ·rcases w with⟨_|_ | i | _|_|_⟩|_<;>first | exact h.elim | skip
  rcases w2 with⟨_|_ | j | _|_|_⟩|_<;>first | exact h.elim | skip
  obtain⟨v,v2,rfl,r1,r2⟩:=rw.two;have e1:=aU r1;have e2:=aU r2;subst e1 e2;exact xv hc ae s σ H _ us Q I r ⟨i,j,rfl,cj.plain h m (cN _)⟩
 ·rcases w with⟨_|_ | i | _|_|_⟩|_<;>first | exact h.elim | skip
  rcases w2 with⟨_|_ | j | _|_|_⟩|_<;>exact h.elim
theorem Iy(hc:X.calm=true):dg X (.builtin "min") (Co X.K .min2):=by
 intro ae s σ H xs us Q I r h;obtain⟨ads,M,ws,m,rw,h⟩:=h;rcases ws with _|⟨w,_|⟨w2,_|⟨w3,ws⟩⟩⟩
 ·exact h.elim
 ·rcases w with⟨_|_|_|_|_|_⟩|_<;>exact h.elim
 ·rcases w with⟨_|_ | i | _|_|_⟩|_<;>first | exact h.elim | skip
  rcases w2 with⟨_|_ | j | _|_|_⟩|_<;>first | exact h.elim | skip
  obtain⟨v,v2,rfl,r1,r2⟩:=rw.two;have e1:=aU r1;have e2:=aU r2;subst e1 e2;exact xx hc ae s σ H _ us Q I r ⟨i,j,rfl,cj.plain h m (cN _)⟩
 ·rcases w with⟨_|_ | i | _|_|_⟩|_<;>first | exact h.elim | skip
  rcases w2 with⟨_|_ | j | _|_|_⟩|_<;>exact h.elim
theorem dH(n:Nat)(hA:∀d p,cM M' n d=some p->p.hasDict=false):∀(ds:List D)(ps:List PyData),bC M' n ds=some ps->PyData.hasDictAll ps=false
 | [],ps,e=>by unfold bC at e;cases e;rfl
 | d::ds,ps,e=>by
  unfold bC at e
  cases q1:cM M' n d with
  | none=>rw[q1]at e;cases e
  | some p =>
   cases q2:bC M' n ds with
   | none=>rw[q1,q2]at e;cases e
   | some qs =>
    rw[q1,q2]at e;cases e;rw[PyData.hasDictAll,hA d p q1,dH n hA ds qs q2];rfl
theorem rJ:∀(n:Nat)(d:D)(p:PyData),cM M' n d=some p->p.hasDict=false:=by
 intro n
 induction n with
 | zero=>intro d p e;cases d<;>(unfold cM at e;cases e)<;>simp[PyData.hasDict]
 | succ n ih =>
  intro d p e
  cases d with
  | tup ds =>
   unfold cM at e
   cases q:bC M' n ds with
   | none=>rw[q]at e;cases e
   | some ps=>rw[q]at e;cases e;rw[PyData.hasDict];exact dH n ih ds ps q
  | aD k =>
   unfold cM at e;split at e
   ·cases q:bC M' n _ with
    | none=>rw[q]at e;cases e
    | some ps=>rw[q]at e;cases e;rw[PyData.hasDict];exact dH n ih _ ps q
   ·cases q:bC M' n _ with
    | none=>rw[q]at e;cases e
    | some ps=>rw[q]at e;cases e;rw[PyData.hasDict];exact dH n ih _ ps q
   ·cases e
  | ls ds =>
   unfold cM at e
   cases q:bC M' n ds with
   | none=>rw[q]at e;cases e
   | some ps=>rw[q]at e;cases e;rw[PyData.hasDict];exact dH n ih ds ps q
  | aJ=>unfold cM at e;cases e;simp[PyData.hasDict]
  | bl _=>unfold cM at e;cases e;simp[PyData.hasDict]
  | int _=>unfold cM at e;cases e;simp[PyData.hasDict]
  | str _=>unfold cM at e;cases e;simp[PyData.hasDict]
theorem Iz:dg X (.type "int") (Co X.K .rC):=by
 intro ae s σ H xs us Q I r h;obtain⟨ads,M,ws,m,rw,h⟩:=h;rcases ws with _|⟨w,_|⟨w2,ws⟩⟩
 ·exact h.elim
 ·obtain⟨v,rfl,rv⟩:=rw.one
  cases w with
  | lv ds=>exact h.elim
  | d x =>
   cases x with
   | int i =>
    have e:=aU rv;subst e;exact ni ae s σ H _ us Q I r (.inl ⟨i,rfl,cj.plain h m (cN _)⟩)
   | bl i =>
    have e:=hG rv;subst e;exact ni ae s σ H _ us Q I r (.inr ⟨i,rfl,cj.plain h m (cN _)⟩)
   | aJ=>exact h.elim
   | str _=>exact h.elim
   | tup _=>exact h.elim
   | aD _=>exact h.elim
   | ls _=>exact h.elim
 ·rcases w with⟨_|_|_|_|_|_⟩|_<;>exact h.elim
theorem D7{k:Nat}(hr:eQ k X.A):dg X (.builtin "repr") (Co X.K .iT):=by
 intro ae s σ H xs us Q I r h;obtain⟨ads,M,ws,m,rw,h⟩:=h;rcases ws with _|⟨w,_|⟨w2,ws⟩⟩
 ·exact h.elim
 ·obtain⟨v,rfl,rv⟩:=rw.one;unfold kA at h;dsimp only at h;split at h
  ·rename_i p q
   split at h
   ·rename_i hs
    obtain⟨u,rfl,ru⟩:=vals1 r;obtain⟨as,ra⟩:=fM I m rv ru q;have Pk:=hr.un
    have fin:∀(h':Heap)(t:Tok)(tk:Nat),(∀b o,s.heap.get? b=some o->h'.get? b=some o)->EP X ae σ Q (.str p.shown t) {s with heap:=h',toks:=tk}:=λh' t tk hk =>
     ⟨.str p.shown,H,I.kept hk,⟨t,rfl⟩,h.plain m (t8 _)⟩
    have D8:∀(t:Tok)(tk:Nat),EP X ae σ Q (.str p.shown t) {s with toks:=tk}:=λt tk=>fin s.heap t tk λ_ _ e=>e
    have nd:p.hasDict=false:=by
     cases w with
     | d x=>exact rJ 30 x p q
     | lv ds =>
      have e:(bC M 30 ds).map PyData.list=some p:=q
      cases q2:bC M 30 ds with
      | none=>rw[q2]at e;cases e
      | some ps=>rw[q2]at e;cases e;rw[PyData.hasDict];exact dH 30 (rJ 30) ds ps q2
    cases ra with
    | none=>exact PySem.P.repr_of_none (D8 _ _)
    | bool b=>exact PySem.P.repr_of_bool (D8 _ _)
    | int i t=>exact PySem.P.repr_of_int (CJ hs.1) (D8 _ _)
    | str x t=>exact PySem.P.repr_of_str (D8 _ _) hs.2.2
    | list h1 h2 h3 h4=>exact repr_of_reads' (.list h1 h2 h3 h4) hs.1 (PyData.noDict_hsm nd) hr.gd (by have:=hs.2.1;omega) (λ_ _ e=>e) (λh' t tk hk=>fin h' t tk hk) hs.2.2
    | tuple h1 h2 h3 h4=>exact repr_of_reads' (.tuple h1 h2 h3 h4) hs.1 (PyData.noDict_hsm nd) hr.gd (by have:=hs.2.1;omega) (λ_ _ e=>e) (λh' t tk hk=>fin h' t tk hk) hs.2.2
    | dict h1 h2 h3 h4 h5=>rw[PyData.hasDict]at nd;cases nd
   ·exact h.elim
  ·exact h.elim
 ·exact h.elim
noncomputable def rK:Ty->String
 | .int => "int" | .bool => "bool" | .str => "str" | .tuple => "tuple" | .list => "list" | .dict => "dict" | .none => "NoneType"
theorem D9(K:Frag):∀g t:Ty,PySem.W.kitOne K (.type (rK g)) (.type (rK t))=some (decide (g=t)||(decide (g=.bool)&&decide (t=.int))):=by
 intro g t;cases g<;>cases t<;>kernel_rfl
theorem IA{K:Frag}{ads:List Addr}{H:Hp}{M:ag}{w:W}{v:V}{g:Ty}(m:aR K ads H M)(r:RW K ads H w v)(e:DV M w=some g):jA K H v (.type (rK g)):=by
 cases w with
 | lv ds=>cases e;obtain⟨a,xs,rfl,h,_⟩:=r;exact .lst h
 | d x =>
  cases x with
  | aJ=>cases e;rw[lJ r];exact .aJ
  | bl b=>cases e;rw[hG r];exact .bl b
  | int b=>cases e;rw[aU r];exact .int b
  | str b=>cases e;rw[d6 r];exact .str b
  | ls b=>cases e
  | tup b=>cases e;have r:RD K ads H (.tup b) v:=r;unfold RD at r;obtain⟨a,xs,rfl,h,_⟩:=r;exact .tup h
  | aD n =>
   have r:RD K ads H (.aD n) v:=r;unfold RD at r;obtain⟨a,rfl,ea⟩:=r;simp only[DV]at e
   cases q:M[n]? with
   | none=>rw[q]at e;cases e
   | some o =>
    rw[q]at e;have ho:=m.obj n o a q ea
    cases o with
    | lst es=>cases e;obtain⟨xs,h,_⟩:=ho;exact .lst h
    | jG es=>cases e;obtain⟨o,xs,h,_⟩:=ho;exact .gh h
    | dK es=>cases e;obtain⟨xs,h,_⟩:=ho;exact .dK h
    | dT es=>cases e;obtain⟨xs,h,_⟩:=ho;exact .dT h
    | dF es=>cases e
theorem IB(t:Ty):dg X (.builtin "isinstance") (λvs H Q=>∃v,vs=[v,.ty (rK t)]/\Co X.K (.qr t) [v] H Q):=by
 intro ae s σ H xs us Q I r h;obtain⟨v,rfl,ads,M,ws,m,rw,h⟩:=h;obtain⟨u,u2,rfl,r1,r2⟩:=vals2 r;rcases ws with _|⟨w,_|⟨w2,ws⟩⟩
 ·exact h.elim
 ·obtain⟨v',e,rv⟩:=rw.one;cases e;unfold kA at h;dsimp only at h;split at h
  ·rename_i g q
   have e2:u2=Value.type (rK t):=r2;subst e2;exact xB I r1 (IA m rv q) (D9 X.K g t) λtk=>⟨.bl _,H,I.tok tk,rfl,h.plain m (j4 _)⟩
  ·exact h.elim
 ·obtain⟨_,_,e,_,_,_,e2,_⟩:=rw;cases e;cases e2
end
end
section
variable [EX]
section
variable {X:Cx}
def Pl(K:Frag)(me:Me):V->List V->Hp->VK->Prop:=λx vs H Q=>∃ads M wx ds,aR K ads H M/\RW K ads H wx x/\aT K ads H ds vs/\cj K ads H Q (tZ me wx ds M)
theorem aT.MP{K:Frag}{ads:List Addr}{H:Hp}{d:D}{vs:List V}(r:aT K ads H [d] vs):∃v,vs=[v]/\RD K ads H d v:=by
 unfold aT at r;obtain⟨v,r',rfl,h,h2⟩:=r;unfold aT at h2;subst h2;exact⟨v,rfl,h⟩
theorem aT.RA{K:Frag}{ads:List Addr}{H:Hp}{d e:D}{vs:List V}(r:aT K ads H [d,e] vs):∃v w,vs=[v,w]/\RD K ads H d v/\RD K ads H e w:=by
 unfold aT at r;obtain⟨v,r',rfl,h,h2⟩:=r;obtain⟨w,rfl,h3⟩:=h2.MP;exact⟨v,w,rfl,h,h3⟩
theorem cj.wrote{K:Frag}{ads:List Addr}{H:Hp}{M:ag}{n:Nat}{a:Addr}{ds es:List D}{ys:List V}{x:D}{Q:VK}{v:V}(h:cj K ads H Q (.ok (.d x) (M.set n (.lst es))))(m:aR K ads H M)(q:M[n]?=some (.lst ds))(ea:ads[n]?=some a)(ha:∃xs,H a=some (.lst xs))(ry:aT K ads H es ys)(rx:RD K ads (br H a (.lst ys)) x v):Q v (br H a (.lst ys)):=by
 obtain⟨xs,ha⟩:=ha;have nf:∀o x,H a≠some (.gh o x):=λo x z=>by rw[ha]at z;cases z
 have g:av ads ads H (br H a (.lst ys)):=by
  have z7:a∈ads:=gQ ea
  exact⟨⟨[],by simp⟩,λb h n=>absurd h n,λb x nb h=>by rw[aj (by intro z;subst z;exact nb z7)];exact h,λb xs h=>by
   rw[aj (λz=>by subst z;rw[ha]at h;cases h)];exact h,λb o u h=>by rw[aj (λz=>by subst z;exact nf _ _ h)];exact h⟩
 obtain⟨g',m'⟩:=m.write (o:=.lst es) (ho:=.lst ys) q ea nf ⟨ys,aQ,g.qo _ _ ry⟩;exact h v _ ads g m' rx
theorem nK:L7 X "list.append" (Pl X.K .append):=by
 intro ae s σ H x vs v us Q I rx rv h;obtain⟨ads,M,wx,ds,m,r1,r2,h⟩:=h;rcases wx with⟨_|_|_|_|_ | n⟩|_<;>first | exact h.elim | skip
 have r1:RD X.K ads H (.aD n) x:=r1;unfold RD at r1;obtain⟨a,rfl,ea⟩:=r1;simp only[tZ]at h
 cases q:M[n]? with
 | none=>rw[q]at h;exact h.elim
 | some o =>
  rw[q]at h
  cases o with
  | lst es =>
   rcases ds with _|⟨d,_|⟨d2,ds⟩⟩
   ·exact h.elim
   ·dsimp only at h;split at h
    ·rename_i hz
     obtain⟨y,rfl,ry⟩:=r2.MP;obtain⟨xs,ha,rd⟩:=m.obj n _ a q ea;exact nC ae s σ H _ _ v us Q I rx rv ⟨a,xs,y,rfl,rfl,ha,by rw[<- rd.len];exact hz,cj.wrote h m q ea ⟨xs,ha⟩ (rd.app (.one ry)) jN⟩
    ·exact h.elim
   ·exact h.elim
  | jG _=>exact h.elim
  | dK _=>exact h.elim
  | dT _=>exact h.elim
  | dF _=>exact h.elim
def D_:V->List V->Hp->VK->Prop:=λx vs H Q=>∃l xs i y,x=.ref l/\vs=[.int i,y]/\H l=some (.lst xs)/\xs.length<sizeLine/\0<=i/\i<=xs.length/\Q .aJ (br H l (.lst (xs.take i.toNat++y::xs.drop i.toNat)))
theorem xT:L7 X "list.insert" D_:=by
 intro ae s σ H x vs v us Q I rx rv h;obtain⟨l,xs,i,y,rfl,rfl,hH,hz,h0,h1,q⟩:=h;cases rx;obtain⟨u,w,rfl,ru,xD⟩:=rv.two;obtain⟨t,rfl⟩:=ru;obtain⟨z,aC,n,r,hl,e⟩:=I.zV hH;have hs:sizeLine=16777216:=sizeLine_eq;refine call_meets F.slot_list_insert ⟨_,e,rfl⟩ F.entry_list_insert (F.args_list_insert_3 _ _ _) (AutoSeq1.list_insert_list_int_val_1 l aC.toArray n i t w ?_ (by rw[cO];omega)) ⟨e,?_⟩
 ·simp only[Builtin.List.listFitsIndex,ic,Bool.not_eq_false];have:(i:Int)<=16777216:=∅;simp;omega
 ·refine⟨.aJ,_,I.Ma (its':=aC.take i.toNat++w::aC.drop i.toNat) hH e ?_ ((r.take _).append (.cons xD (r.drop _))) ?_,rfl,q⟩
  ·dsimp only;rw[a8 ∅];have hk:min i.toNat aC.toArray.size=i.toNat:=by rw[cO];omega
   rw[hk];apply Array.ext';simp only[Array.toList_append,Array.toList_push,Array.toList_extract,List.extract_eq_take_drop,cO,List.drop_zero,Nat.sub_zero];rw[List.take_of_length_le (l:=List.drop i.toNat aC) (by simp)];simp
  ·simp;omega
theorem nL:L7 X "list.insert" (Pl X.K .insert):=by
 intro ae s σ H x vs v us Q I rx rv h;obtain⟨ads,M,wx,ds,m,r1,r2,h⟩:=h;rcases wx with⟨_|_|_|_|_ | n⟩|_<;>first | exact h.elim | skip
 have r1:RD X.K ads H (.aD n) x:=r1;unfold RD at r1;obtain⟨a,rfl,ea⟩:=r1;simp only[tZ]at h
 cases q:M[n]? with
 | none=>rw[q]at h;exact h.elim
 | some o =>
  rw[q]at h
  cases o with
  | lst es =>
   rcases ds with _|⟨d,_|⟨d2,_|⟨d3,ds⟩⟩⟩
   ·exact h.elim
   ·rcases d with _|_|_|_|_|_<;>exact h.elim
   ·rcases d with _|_ | i | _|_|_<;>first | exact h.elim | skip
    dsimp only at h;split at h
    ·rename_i hz
     obtain⟨vi,y,rfl,ri,ry⟩:=r2.RA;unfold RD at ri;subst ri;obtain⟨xs,ha,rd⟩:=m.obj n _ a q ea;refine xT ae s σ H _ _ v us Q I rx rv ⟨a,xs,i,y,rfl,rfl,ha,by rw[<- rd.len];exact hz.1,hz.2.1,by rw[<- rd.len];exact hz.2.2,cj.wrote h m q ea ⟨xs,ha⟩ ((rd.take _).app ?_) jN⟩;show aT X.K ads H (d2::es.drop i.toNat) (y::xs.drop i.toNat);unfold aT;exact⟨y,_,rfl,ry,rd.drop _⟩
    ·exact h.elim
   ·rcases d with _|_ | i | _|_|_<;>exact h.elim
  | jG _=>exact h.elim
  | dK _=>exact h.elim
  | dT _=>exact h.elim
  | dF _=>exact h.elim
def gz(o i:W)(d:D)(M:ag):bJ Unit :=
 match o with
 | .d (.aD n)=>match M[n]? with
  | some (.lst ds)=>match i with
   | .d (.int k)=>match zP ds.length k with
    | some j=>.ok () (M.set n (.lst (ds.set j d)))
    | none=>.af
   | _=>.af
  | some (.dK ao)=>match i with
   | .d (.str k)=>if ao.length<sizeLine then .ok () (M.set n (.dK (lC ao (Sum.inr k) d))) else .af
   | .d (.int k)=>if ao.length<sizeLine then .ok () (M.set n (.dK (lC ao (Sum.inl k) d))) else .af
   | _=>.af
  | _=>.af
 | _=>.af
def TH(K:Frag)(ads:List Addr)(H:Hp)(Q:Hp->Prop):bJ Unit->Prop
 | .ok _ M=>∀H' aq,av ads aq H H'->aR K aq H' M->Q H'
 | .err x M=>EX.post K ads H x M
 | .af=>False
def RB(K:Frag):CY:=λo i v H Q=>∃ads M wo wi d,aR K ads H M/\RW K ads H wo o/\RW K ads H wi i/\RD K ads H d v/\TH K ads H Q (gz wo wi d M)
theorem IC(hu:X.A.units+1<cLine):Ha X (RB X.K):=by
 intro ae s σ H o i v ov iv u Q I ro ri rv h;obtain⟨ads,M,wo,wi,d,m,r1,r2,r3,h⟩:=h;rcases wo with⟨_|_|_|_|_ | n⟩|_<;>first | exact h.elim | skip
 have r1:RD X.K ads H (.aD n) o:=r1;unfold RD at r1;obtain⟨a,rfl,ea⟩:=r1;simp only[gz]at h
 cases q:M[n]? with
 | none=>rw[q]at h;exact h.elim
 | some ob =>
  rw[q]at h;have z7:a∈ads:=gQ ea
  cases ob with
  | lst ds =>
   rcases wi with⟨_|_ | k | _|_|_⟩|_<;>first | exact h.elim | skip
   have ei:=aU r2;subst ei;dsimp only at h
   cases q2:zP ds.length k with
   | none=>rw[q2]at h;exact h.elim
   | some j =>
    rw[q2]at h;obtain⟨xs,ha,rd⟩:=m.obj n _ a q ea;refine zQ ae s σ H _ _ v ov iv u Q I ro ri rv ⟨a,xs,k,j,rfl,rfl,ha,by rw[<- rd.len];exact q2,?_⟩;have nf:∀o x,H a≠some (.gh o x):=λo x z=>by rw[ha]at z;cases z
    have hg:av ads ads H (br H a (.lst (xs.set j v))):=⟨⟨[],by simp⟩,λb h n=>absurd h n,λb x nb h=>by rw[aj (by intro z;subst z;exact nb z7)];exact h,λb xs h=>by
     rw[aj (λz=>by subst z;rw[ha]at h;cases h)];exact h,λb o u h=>by rw[aj (λz=>by subst z;exact nf _ _ h)];exact h⟩
    obtain⟨g',m'⟩:=m.write (o:=.lst (ds.set j d)) (ho:=.lst (xs.set j v)) q ea nf ⟨_,aQ,hg.qo _ _ (rd.setAt j r3)⟩;exact h _ ads hg m'
  | dK ao =>
   obtain⟨ks,ha,rk⟩:=m.obj n _ a q ea;have nf:∀o x,H a≠some (.gh o x):=λo x z=>by rw[ha]at z;cases z
   have put:∀(k:bA),i=kV k->ao.length<sizeLine->TH X.K ads H Q (.ok () (M.set n (.dK (lC ao k d))))->wpAny (model X.prog X.w) X.A (setItem ov iv u) (λ_ s'=>∃H',Inv X ae σ H' s'/\Q H') X.xe s:=by
    intro k ek hz h;subst ek;cases ro;refine xE hu I (Dd.k (k:=k) ha (by rw[<- rk.len];exact hz)) ri rv λs' I'=>⟨_,I',?_⟩
    have hg:av ads ads H (br H a (.dK (dW ks k v))):=⟨⟨[],by simp⟩,λb h n=>absurd h n,λb x nb h=>by rw[aj (by intro z;subst z;exact nb z7)];exact h,λb xs h=>by
     rw[aj (λz=>by subst z;rw[ha]at h;cases h)];exact h,λb o u h=>by rw[aj (λz=>by subst z;exact nf _ _ h)];exact h⟩
    obtain⟨g',m'⟩:=m.write (o:=.dK (lC ao k d)) (ho:=.dK (dW ks k v)) q ea nf ⟨_,aQ,hg.DQ _ _ (rk.put r3)⟩;exact h _ ads hg m'
   rcases wi with⟨_|_ | k | k | _|_⟩|_<;>first | exact h.elim | skip
   ·have ei:=aU r2;subst ei;dsimp only at h;split at h
    ·rename_i hz
     exact put (Sum.inl k) rfl hz h
    ·exact h.elim
   ·have ei:=d6 r2;subst ei;dsimp only at h;split at h
    ·rename_i hz
     exact put (Sum.inr k) rfl hz h
    ·exact h.elim
  | jG _=>exact h.elim
  | dT _=>exact h.elim
  | dF _=>exact h.elim
end
end
section
variable [EX]
structure CC where
 N:List Str
 names:List (Str×NameKind)
 fs:List (Str×Nat)
 gs:List (Str×Int)
 xs:List (Str×Addr×Str)
noncomputable def KD(cc:CC)(x:Str):Bool:=match cc.names.lookup x with
 | some .local=>true
 | some .cell=>true
 | some .free=>true
 | _=>false
noncomputable def glob(cc:CC)(x:Str):Bool:=match cc.names.lookup x with
 | some .globalImplicit=>true
 | _=>false
noncomputable def cA(x:Str):Bool:=!(x==("__debug__" : Str)) && !(x==("__classdict__" : Str)) && !(x==("__name__" : Str))
theorem bF{p:Prop}[d:Decidable p]{f:p->Bool}(h:(if h:p then f h else false)=true):p:=by
 cases d with
 | isTrue q=>exact q
 | isFalse q=>rw[dif_neg q]at h;exact absurd h a6
noncomputable def fu(e:Expr)(f:BoolOp->List Expr->Pos->Bool):Bool:=if h:e.ctorIdx=0 then Expr.BoolOp.elim (motive_1:=λ_=>Bool) e h f else false
theorem eX{P:Expr->Prop}{e:Expr}{f:BoolOp->List Expr->Pos->Bool}(h:fu e f=true)(k:∀a b c,f a b c=true->P (.BoolOp a b c)):P e :=
 Expr.BoolOp.elim (motive_1:=λe=>fu e f=true->P e) e (bF h) (λa b c h=>k a b c h) h
noncomputable def px(e:Expr)(f:Expr->Operator->Expr->Pos->Bool):Bool:=if h:e.ctorIdx=2 then Expr.BinOp.elim (motive_1:=λ_=>Bool) e h f else false
theorem t_{P:Expr->Prop}{e:Expr}{f:Expr->Operator->Expr->Pos->Bool}(h:px e f=true)(k:∀a b c d,f a b c d=true->P (.BinOp a b c d)):P e :=
 Expr.BinOp.elim (motive_1:=λe=>px e f=true->P e) e (bF h) (λa b c d h=>k a b c d h) h
noncomputable def eD(e:Expr)(f:UnaryOp->Expr->Pos->Bool):Bool:=if h:e.ctorIdx=3 then Expr.UnaryOp.elim (motive_1:=λ_=>Bool) e h f else false
theorem eA{P:Expr->Prop}{e:Expr}{f:UnaryOp->Expr->Pos->Bool}(h:eD e f=true)(k:∀a b c,f a b c=true->P (.UnaryOp a b c)):P e :=
 Expr.UnaryOp.elim (motive_1:=λe=>eD e f=true->P e) e (bF h) (λa b c h=>k a b c h) h
noncomputable def pz(e:Expr)(f:Expr->Expr->Expr->Pos->Bool):Bool:=if h:e.ctorIdx=5 then Expr.IfExp.elim (motive_1:=λ_=>Bool) e h f else false
theorem ua{P:Expr->Prop}{e:Expr}{f:Expr->Expr->Expr->Pos->Bool}(h:pz e f=true)(k:∀a b c d,f a b c d=true->P (.IfExp a b c d)):P e :=
 Expr.IfExp.elim (motive_1:=λe=>pz e f=true->P e) e (bF h) (λa b c d h=>k a b c d h) h
noncomputable def ub(e:Expr)(f:List (Option Expr)->List Expr->Pos->Bool):Bool:=if h:e.ctorIdx=6 then Expr.Dict.elim (motive_1:=λ_=>Bool) e h f else false
theorem xU{P:Expr->Prop}{e:Expr}{f:List (Option Expr)->List Expr->Pos->Bool}(h:ub e f=true)(k:∀a b c,f a b c=true->P (.Dict a b c)):P e :=
 Expr.Dict.elim (motive_1:=λe=>ub e f=true->P e) e (bF h) (λa b c h=>k a b c h) h
noncomputable def fN(e:Expr)(f:Expr->List Comprehension->Scope->Pos->Bool):Bool:=if h:e.ctorIdx=8 then Expr.ListComp.elim (motive_1:=λ_=>Bool) e h f else false
theorem hU{P:Expr->Prop}{e:Expr}{f:Expr->List Comprehension->Scope->Pos->Bool}(h:fN e f=true)(k:∀a b c d,f a b c d=true->P (.ListComp a b c d)):P e :=
 Expr.ListComp.elim (motive_1:=λe=>fN e f=true->P e) e (bF h) (λa b c d h=>k a b c d h) h
noncomputable def fv(e:Expr)(f:Expr->List CmpOp->List Expr->Pos->Bool):Bool:=if h:e.ctorIdx=15 then Expr.Compare.elim (motive_1:=λ_=>Bool) e h f else false
theorem fO{P:Expr->Prop}{e:Expr}{f:Expr->List CmpOp->List Expr->Pos->Bool}(h:fv e f=true)(k:∀a b c d,f a b c d=true->P (.Compare a b c d)):P e :=
 Expr.Compare.elim (motive_1:=λe=>fv e f=true->P e) e (bF h) (λa b c d h=>k a b c d h) h
noncomputable def gA(e:Expr)(f:Expr->List Expr->List Keyword->Pos->Bool):Bool:=if h:e.ctorIdx=16 then Expr.Call.elim (motive_1:=λ_=>Bool) e h f else false
theorem fw{P:Expr->Prop}{e:Expr}{f:Expr->List Expr->List Keyword->Pos->Bool}(h:gA e f=true)(k:∀a b c d,f a b c d=true->P (.Call a b c d)):P e :=
 Expr.Call.elim (motive_1:=λe=>gA e f=true->P e) e (bF h) (λa b c d h=>k a b c d h) h
noncomputable def cv(e:Expr)(f:Const->Nat->Pos->Bool):Bool:=if h:e.ctorIdx=19 then Expr.Constant.elim (motive_1:=λ_=>Bool) e h f else false
theorem bW{P:Expr->Prop}{e:Expr}{f:Const->Nat->Pos->Bool}(h:cv e f=true)(k:∀a b c,f a b c=true->P (.Constant a b c)):P e :=
 Expr.Constant.elim (motive_1:=λe=>cv e f=true->P e) e (bF h) (λa b c h=>k a b c h) h
noncomputable def gB(e:Expr)(f:Expr->Str->Pos->Bool):Bool:=if h:e.ctorIdx=20 then Expr.Attribute.elim (motive_1:=λ_=>Bool) e h f else false
theorem lL{P:Expr->Prop}{e:Expr}{f:Expr->Str->Pos->Bool}(h:gB e f=true)(k:∀a b c,f a b c=true->P (.Attribute a b c)):P e :=
 Expr.Attribute.elim (motive_1:=λe=>gB e f=true->P e) e (bF h) (λa b c h=>k a b c h) h
noncomputable def cZ(e:Expr)(f:Expr->Expr->Pos->Bool):Bool:=if h:e.ctorIdx=21 then Expr.Subscript.elim (motive_1:=λ_=>Bool) e h f else false
theorem dq{P:Expr->Prop}{e:Expr}{f:Expr->Expr->Pos->Bool}(h:cZ e f=true)(k:∀a b c,f a b c=true->P (.Subscript a b c)):P e :=
 Expr.Subscript.elim (motive_1:=λe=>cZ e f=true->P e) e (bF h) (λa b c h=>k a b c h) h
noncomputable def d7(e:Expr)(f:Str->Pos->Bool):Bool:=if h:e.ctorIdx=23 then Expr.Name.elim (motive_1:=λ_=>Bool) e h f else false
theorem b_{P:Expr->Prop}{e:Expr}{f:Str->Pos->Bool}(h:d7 e f=true)(k:∀a b,f a b=true->P (.Name a b)):P e :=
 Expr.Name.elim (motive_1:=λe=>d7 e f=true->P e) e (bF h) (λa b h=>k a b h) h
noncomputable def uc(e:Expr)(f:List Expr->Pos->Bool):Bool:=if h:e.ctorIdx=24 then Expr.List.elim (motive_1:=λ_=>Bool) e h f else false
theorem xV{P:Expr->Prop}{e:Expr}{f:List Expr->Pos->Bool}(h:uc e f=true)(k:∀a b,f a b=true->P (.List a b)):P e :=
 Expr.List.elim (motive_1:=λe=>uc e f=true->P e) e (bF h) (λa b h=>k a b h) h
noncomputable def kC(e:Expr)(f:List Expr->Nat->Pos->Bool):Bool:=if h:e.ctorIdx=25 then Expr.Tuple.elim (motive_1:=λ_=>Bool) e h f else false
theorem iw{P:Expr->Prop}{e:Expr}{f:List Expr->Nat->Pos->Bool}(h:kC e f=true)(k:∀a b c,f a b c=true->P (.Tuple a b c)):P e :=
 Expr.Tuple.elim (motive_1:=λe=>kC e f=true->P e) e (bF h) (λa b c h=>k a b c h) h
noncomputable def kE(e:Expr)(f:Option Expr->Option Expr->Option Expr->Pos->Bool):Bool:=if h:e.ctorIdx=26 then Expr.Slice.elim (motive_1:=λ_=>Bool) e h f else false
theorem lM{P:Expr->Prop}{e:Expr}{f:Option Expr->Option Expr->Option Expr->Pos->Bool}(h:kE e f=true)(k:∀a b c d,f a b c d=true->P (.Slice a b c d)):P e :=
 Expr.Slice.elim (motive_1:=λe=>kE e f=true->P e) e (bF h) (λa b c d h=>k a b c d h) h
noncomputable def iW(e:Stmt)(f:Option Expr->Pos->Bool):Bool:=if h:e.ctorIdx=3 then Stmt.Return.elim (motive_2:=λ_=>Bool) e h f else false
theorem j5{P:Stmt->Prop}{e:Stmt}{f:Option Expr->Pos->Bool}(h:iW e f=true)(k:∀a b,f a b=true->P (.Return a b)):P e :=
 Stmt.Return.elim (motive_2:=λe=>iW e f=true->P e) e (bF h) (λa b h=>k a b h) h
noncomputable def pA(e:Stmt)(f:Option Expr->Option Expr->Pos->Bool):Bool:=if h:e.ctorIdx=16 then Stmt.Raise.elim (motive_2:=λ_=>Bool) e h f else false
theorem ud{P:Stmt->Prop}{e:Stmt}{f:Option Expr->Option Expr->Pos->Bool}(h:pA e f=true)(k:∀a b c,f a b c=true->P (.Raise a b c)):P e :=
 Stmt.Raise.elim (motive_2:=λe=>pA e f=true->P e) e (bF h) (λa b c h=>k a b c h) h
noncomputable def gC(e:Stmt)(f:List Expr->Expr->Pos->Bool):Bool:=if h:e.ctorIdx=5 then Stmt.Assign.elim (motive_2:=λ_=>Bool) e h f else false
theorem gD{P:Stmt->Prop}{e:Stmt}{f:List Expr->Expr->Pos->Bool}(h:gC e f=true)(k:∀a b c,f a b c=true->P (.Assign a b c)):P e :=
 Stmt.Assign.elim (motive_2:=λe=>gC e f=true->P e) e (bF h) (λa b c h=>k a b c h) h
noncomputable def Az(e:Stmt)(f:Expr->Expr->List Stmt->List Stmt->Pos->Bool):Bool:=if h:e.ctorIdx=9 then Stmt.For.elim (motive_2:=λ_=>Bool) e h f else false
theorem AA{P:Stmt->Prop}{e:Stmt}{f:Expr->Expr->List Stmt->List Stmt->Pos->Bool}(h:Az e f=true)(k:∀a b c d e,f a b c d e=true->P (.For a b c d e)):P e :=
 Stmt.For.elim (motive_2:=λe=>Az e f=true->P e) e (bF h) (λa b c d e h=>k a b c d e h) h
noncomputable def ID(e:Stmt)(f:Expr->List Stmt->List Stmt->Pos->Bool):Bool:=if h:e.ctorIdx=12 then Stmt.If.elim (motive_2:=λ_=>Bool) e h f else false
theorem Ea{P:Stmt->Prop}{e:Stmt}{f:Expr->List Stmt->List Stmt->Pos->Bool}(h:ID e f=true)(k:∀a b c d,f a b c d=true->P (.If a b c d)):P e :=
 Stmt.If.elim (motive_2:=λe=>ID e f=true->P e) e (bF h) (λa b c d h=>k a b c d h) h
noncomputable def ue(e:Stmt)(f:Expr->Pos->Bool):Bool:=if h:e.ctorIdx=24 then Stmt.Expr.elim (motive_2:=λ_=>Bool) e h f else false
theorem xW{P:Stmt->Prop}{e:Stmt}{f:Expr->Pos->Bool}(h:ue e f=true)(k:∀a b,f a b=true->P (.Expr a b)):P e :=
 Stmt.Expr.elim (motive_2:=λe=>ue e f=true->P e) e (bF h) (λa b h=>k a b h) h
noncomputable def uf(e:Stmt)(f:Pos->Bool):Bool:=if h:e.ctorIdx=25 then Stmt.Pass.elim (motive_2:=λ_=>Bool) e h f else false
theorem xX{P:Stmt->Prop}{e:Stmt}{f:Pos->Bool}(h:uf e f=true)(k:∀a,f a=true->P (.Pass a)):P e :=
 Stmt.Pass.elim (motive_2:=λe=>uf e f=true->P e) e (bF h) (λa h=>k a h) h
noncomputable def pB(e:Stmt)(f:Pos->Bool):Bool:=if h:e.ctorIdx=26 then Stmt.Break.elim (motive_2:=λ_=>Bool) e h f else false
theorem ug{P:Stmt->Prop}{e:Stmt}{f:Pos->Bool}(h:pB e f=true)(k:∀a,f a=true->P (.Break a)):P e :=
 Stmt.Break.elim (motive_2:=λe=>pB e f=true->P e) e (bF h) (λa h=>k a h) h
noncomputable def ix(e:Stmt)(f:Pos->Bool):Bool:=if h:e.ctorIdx=27 then Stmt.Continue.elim (motive_2:=λ_=>Bool) e h f else false
theorem mW{P:Stmt->Prop}{e:Stmt}{f:Pos->Bool}(h:ix e f=true)(k:∀a,f a=true->P (.Continue a)):P e :=
 Stmt.Continue.elim (motive_2:=λe=>ix e f=true->P e) e (bF h) (λa h=>k a h) h
def isInt(k:Int):Const->Bool
 | .int j=>k==j
 | _=>false
def Eb:Const->Bool
 | .none=>true
 | _=>false
def isNone(e:Expr):Bool:=cv e λc _ _=>Eb c
def Ec:Const->Bool
 | .bool true=>true
 | _=>false
def pC(e:Expr):Bool:=cv e λc _ _=>Ec c
def vQ:BoolOp->Bool
 | .And=>true
 | .Or=>false
def AB:UnaryOp->Bool
 | .USub=>true
 | _=>false
def FW:UnaryOp->Bool
 | .Not=>true
 | _=>false
def iX(e:Expr):Bool:=!Nat.beq e.ctorIdx 26
noncomputable def gJ(e:Expr):Bool:=[23,16,21,24,25,19,2].contains e.ctorIdx
def lN(e:Expr):Bool:=!(gA e λf as ks _=>Nat.beq f.ctorIdx 23&&as.isEmpty&&ks.isEmpty)
def a_(e:Expr):Bool:=!Nat.beq e.ctorIdx 22
noncomputable def AD:Bi->Str
 | .len => "len" | .max2 => "max" | .min2 => "min" | .rC => "int" | .list1 => "list" | .tuple1 => "tuple" | .iT => "repr" | .qr _ => "isinstance" | .all1 => "all" | .DR => "any" | .nJ => "dict" | .min1 => "min" | .DS => "max" | .vH => "sorted"
noncomputable def AE:Me->Str
 | .append => "append" | .insert => "insert" | .reverse => "reverse" | .extend => "extend" | .remove => "remove" | .clear => "clear" | .pop => "pop"
noncomputable def dr:List Str:=["len","max","min","int","list","tuple","repr","isinstance","all","any","bool","str","dict","range","enumerate","zip","sorted","set"]
noncomputable def MQ:Me->Bool
 | .append=>true | .insert=>true | .reverse=>false | .extend=>false | .remove=>false | .clear=>false | .pop=>false
noncomputable def IE:Bi->Bool
 | .all1=>false
 | .DR=>false
 | .min1=>false
 | .DS=>false
 | .vH=>false
 | .qr _=>false
 | _=>true
def isStr(k:Str):Const->Bool
 | .str s=>k==s
 | _=>false
def iY:List Str->List (Option Expr)->Bool
 | [],[]=>true
 | k::ks,some e::es=>(cv e λc _ _=>isStr k c)&&iY ks es
 | _,_=>false
noncomputable def d8(sc:Scope):List Str:=(sc.names.filter λy=>y.2 == .local||y.2 == .free||y.2 == .cell).map (·.1)
def lO(cc:CC)(sc:Scope):List (Option Nat):=(d8 sc).map λx=>if sc.names.lookup x==some .free then cc.N.findIdx? (· == x) else none
def nM(cc:CC)(sc:Scope):CC:=⟨d8 sc,sc.names,cc.fs,cc.gs,[]⟩
def rL(cc:CC)(sc:Scope):Bool:=sc.kind == .function&&sc.names.all (λy=>y.2 != .cell||sc.names.lookup y.1==some .cell)&&sc.names.all (λy=>y.2 != .local||sc.names.lookup y.1==some .local)&&decide (d8 sc).Nodup &&
 sc.names.all (λy=>y.2 != .free||(sc.names.lookup y.1==some .free&&(cc.names.lookup y.1==some .cell||cc.names.lookup y.1==some .free)))
def iZ(cc:CC):List Nat->List Expr->Bool
 | [],[]=>true
 | i::tg,e::es=>(d7 e λx _=>cc.N[i]? == some x&&(cc.names.lookup x==some .local||cc.names.lookup x==some .cell))&&iZ cc tg es
 | _,_=>false
def hZ(cc:CC)(tg:List Nat)(e:Expr):Bool:=match tg with
 | []=>false
 | [i]=>iZ cc [i] [e]
 | i::j::r=>kC e λes _ _=>iZ cc (i::j::r) es&&decide ((i::j::r).length<20)
def kF(e:Expr):Bool:=Nat.beq e.ctorIdx 25
def gE(e:Expr):Bool:=!Nat.beq e.ctorIdx 7
noncomputable def RC:D->Const->Bool
 | .int i,.int j=>i==j
 | .bl i,.bool j=>i==j
 | .str i,.str j=>i==j
 | .aJ,.none=>true
 | _,_=>false
noncomputable def IF:D->Const->Bool
 | .int i,.int j=>i == -j
 | _,_=>false
def AF(d:D)(e:Expr):Bool:=(cv e λc _ _=>RC d c)||eD e λop x _=>AB op&&cv x λc _ _=>IF d c
def AG:Bi->Option Ty
 | .qr t=>some t
 | _=>none
theorem uh{b:Bi}{t:Ty}(h:AG b=some t):b=.qr t:=by
 cases b<;>first | (cases h;rfl) | cases h
mutual
noncomputable def bX(cc:CC):C->Expr->Bool
 | .fK i,e=>d7 e λx _=>cc.N[i]? == some x&&KD cc x&&cA x
 | .bf d,e=>AF d e
 | .bin op a b,e=>px e λl o r _=>o==D1 op&&bX cc a l&&bX cc b r
 | .cmp op a b,e=>fv e λl os rs _=>match os,rs with
  | [o],[r]=>o==Il op && !behindInMarks o r&&(if op=.qq\/op=.fc then isNone r else true)&&bX cc a l&&bX cc b r
  | _,_=>false
 | .chain o1 o2 a b c,e=>fv e λl os rs _=>match os,rs with
  | [p,q],[m,r]=>p==Il o1&&q==Il o2 && !lastMarks [p,q] [m,r] && !(decide (o1=.qq)||decide (o1=.fc)||decide (o2=.qq)||decide (o2=.fc))&&bX cc a l&&bX cc b m&&bX cc c r
  | _,_=>false
 | .di cs,e=>fu e λop es _=>vQ op&&bY cc cs es && !es.isEmpty
 | .f_ cs,e=>fu e λop es _=>!vQ op&&bY cc cs es && !es.isEmpty
 | .neg a,e=>eD e λop x _=>FW op&&bX cc a x
 | .ite t a b,e=>pz e λc x y _=>jP cc t c&&bX cc a x&&bX cc b y
 | .tup cs,e=>kC e λes _ _=>bY cc cs es
 | .lst cs,e=>uc e λes _=>bY cc cs es
 | .sub a b,e=>cZ e λe i _=>iX i&&bX cc a e&&bX cc b i
 | .sQ a lo hi,e=>cZ e λe i _=>kE i λl h st _=>st.isNone&&bX cc a e&&IG cc lo l&&IG cc hi h
 | .yE a k,e=>cZ e λe i _=>kE i λl h st _=>match l,h,st with
  | none,none,some ke=>((cv ke λc _ _=>isInt k c)||eD ke λop x _=>AB op&&cv x λc _ _=>isInt (-k) c)&&bX cc a e
  | _,_,_=>false
 | .call f cs,e=>gA e λfe args lP _=>d7 fe λx _=>match args,lP with
  | e::es,[]=>cc.fs[f]? == some (x,cs.length)&&glob cc x&&cA x&&bY cc cs (e::es)
  | _,_=>false
 | .bi b cs,e=>gA e λfe args lP _=>d7 fe λx _=>lP.isEmpty&&x==AD b&&glob cc x&&match AG b,args with
  | some t,[e,f]=>(d7 f λy _=>y==Str.ofString (rK t)&&glob cc y&&decide (t≠.none))&&bY cc cs [e]
  | none,e::es=>IE b&&bY cc cs (e::es)
  | _,_=>false
 | .me m o cs,e=>gA e λfe es lP cp=>gB fe λe n ap=>lP.isEmpty&&n==AE m&&MQ m&&ap.endLine==cp.line&&lN e&&bX cc o e&&bY cc cs es&&decide (es.length<20)
 | .xI ks cs,e=>ub e λkeys vs _=>(iY ks keys&&decide ks.Nodup && !keys.isEmpty&&decide (keys.length<=15)&&bY cc cs vs&&decide (ks.length=cs.length))||(ks.isEmpty&&cs.isEmpty&&keys.isEmpty&&vs.isEmpty)
 | .jU tp cs,e=>false
 | .DU x v,e=>d7 e λy _=>y==x&&glob cc x&&cA x&&cc.gs.lookup x==some v
 | .fL ng a,e=>fv e λl os rs _=>match os,rs with
  | [o],[r]=>o==(if ng=true then CmpOp.IsNot else CmpOp.Is) && !behindInMarks o r&&pC r&&bX cc a l
  | _,_=>false
 | .comp k cV tg cond elt cD,e=>fN e λel gens sc _=>match gens with
  | [⟨t,aH,ifs,as⟩]=>as==0&&rL cc sc&&decide (cD=lO cc sc)&&pE cc k cV t aH&&hZ (nM cc sc) tg t&&Ed (nM cc sc) cond ifs&&bX (nM cc sc) elt el
  | _=>false
noncomputable def Ed(cc:CC):Option dZ->List Expr->Bool
 | none,[]=>true
 | some t,[e]=>jP cc t e
 | _,_=>false
noncomputable def pE(cc:CC):SK->List C->Expr->Expr->Bool
 | .seq,[c],_,e=>gE e&&bX cc c e
 | .fJ,[c],_,e=>gA e λfe args lP _=>d7 fe λx _=>match args,lP with
  | [a],[]=>x == "range" && glob cc x&&a_ a&&bX cc c a
  | _,_=>false
 | _,_,_,_=>false
noncomputable def jP(cc:CC):dZ->Expr->Bool
 | .di ts,e=>fu e λop es _=>vQ op&&lQ cc ts es && !es.isEmpty
 | .f_ ts,e=>fu e λop es _=>!vQ op&&lQ cc ts es && !es.isEmpty
 | .neg a,e=>eD e λop x _=>FW op&&jP cc a x
 | .val (.cmp op a b),e=>bX cc (.cmp op a b) e
 | .val (.chain o1 o2 a b c),e=>bX cc (.chain o1 o2 a b c) e
 | .val (.fL ng a),e=>bX cc (.fL ng a) e
 | .val c,e=>gJ e&&bX cc c e
noncomputable def lQ(cc:CC):List dZ->List Expr->Bool
 | [],[]=>true
 | c::cs,e::es=>jP cc c e&&lQ cc cs es
 | _,_=>false
noncomputable def bY(cc:CC):List C->List Expr->Bool
 | [],[]=>true
 | c::cs,e::es=>a_ e&&bX cc c e&&bY cc cs es
 | _,_=>false
noncomputable def IG(cc:CC):Option C->Option Expr->Bool
 | none,none=>true
 | some c,some e=>bX cc c e
 | _,_=>false
end
end
section
variable [EX]
noncomputable def IH(X:Cx)(x:Str):NameKind->Prop
 | .local=>X.env.kindOf x=some .local
 | .cell=>X.env.kindOf x=some .cell
 | .free=>X.env.kindOf x=some .cell\/X.env.kindOf x=some .free
 | .globalImplicit=>X.env.kindOf x=some .globalImplicit
 | _=>True
def yF(K:Frag)(n:Nat)(F:List D->ag->bJ W):Sp:=λvs H Q E=>∃ads M ds,aR K ads H M/\aT K ads H ds vs/\ds.length=n/\@cj (tV E) K ads H Q (F ds M)
structure Good (kk:Nat) (X:Cx) (cc:CC) (G:bc):Prop where
 calm:X.calm=true
 room:eQ kk X.A
 N:X.N=cc.N
 nd:cc.N.Nodup
 kinds:∀x k,cc.names.lookup x=some k->IH X x k
 V1:∀x,cc.names.lookup x=some .cell->X.fn x=true
 blt:∀b∈dr,X.mg b=none
 TJ:∀(x:Str)(v:Int),cc.gs.lookup x=some v->∃t,X.mg x=some (.int v t)
 fns:∀(i:Nat)(x:Str)(n:Nat),cc.fs[i]?=some (x,n)->∃f fd ps,dE X.prog X.w X.K X.mg X.base (ql X.prog X.w) kk f fd ps (yF X.K n (G i))/\X.mg x=some (.ref f)/\PySem.W.keepIn X.K (.ref f)=true/\Binds X.K fd ps []
 ex:∃E:XK,oQ (ql X.prog X.w) X E/\∀{K:Frag}{ads:List Addr}{H:Hp}{x:vG}{M:ag},EX.post K ads H x M->(tV E).post K ads H x M
section
variable {kk:Nat} {X:Cx} {cc:CC} {G:bc}
theorem Good.KD(g:Good kk X cc G){x:Str}(h:KD cc x=true):Lv X.env.scope x:=by
 unfold Ev.KD at h;split at h
 ·rename_i q;exact .inl (g.kinds x _ q)
 ·rename_i q;exact .inr (.inl (g.kinds x _ q))
 ·rename_i q
  rcases g.kinds x _ q with z | z
  ·exact .inr (.inl z)
  ·exact .inr (.inr z)
 ·cases h
theorem Good.gl(g:Good kk X cc G){x:Str}(h:glob cc x=true):Gl X x:=by
 unfold glob at h;split at h
 ·rename_i q;exact g.kinds x _ q
 ·cases h
theorem gK{x:Str}(h:cA x=true):(x==("__debug__" : Str))=false/\(x==("__classdict__" : Str))=false/\x≠("__name__" : Str):=by
 unfold cA at h;simp only[aK,ic]at h;exact⟨h.1.1,h.1.2,λz=>by rw[z]at h;simp at h⟩
theorem fx{e:Expr}{t u:TE}(h:PE X e t)(f:∀σ H Q,u σ H Q->t σ H Q):PE X e u:=λae s σ H Q I q=>h ae s σ H Q I (f σ H Q q)
theorem Ee{e:Expr}{t u:TT}(h:PT X e t)(f:∀σ H Q,u σ H Q->t σ H Q):PT X e u:=λae s σ H Q I q=>h ae s σ H Q I (f σ H Q q)
theorem Pm{e:Expr}{t u:TT}(h:PW X e t)(f:∀σ H Q,u σ H Q->t σ H Q):PW X e u:=λwh ae s σ H Q I q=>h wh ae s σ H Q I (f σ H Q q)
theorem KG{e:List Expr}{t u:TA}(h:PA X e t)(f:∀σ H Q,u σ H Q->t σ H Q):PA X e u:=λp ae s σ H Q I q=>h p ae s σ H Q I (f σ H Q q)
theorem cR{e:Expr}(h:a_ e=true)(es:List Expr)(env:Env):starEach (e::es) env=(false,eval e env)::starEach es env:=by
 cases e<;>first | rfl | exact absurd (show false=true from h) a6
theorem MR{i:Nat}{e:Expr}(g:Good kk X cc G)(h:bX cc (.fK i) e=true):PE X e (tE X.K (ev G (.fK i))):=by
 refine b_ (P:=λe=>PE X e _) h λx pos h=>?_;have h:(cc.N[i]? == some x&&KD cc x&&cA x)=true:=h;simp only[aK,gR]at h;obtain⟨⟨h1,h2⟩,h3⟩:=h;obtain⟨d1,d2,_⟩:=gK h3;refine fx (gq (i:=i) (by rw[g.N];exact h1) (g.KD h2) d1 d2) λσ H Q q=>?_;obtain⟨ads,M,ρ,s,q⟩:=q;simp only[Ak]at q;split at q
 ·rename_i d e
  obtain⟨v,Rx,r⟩:=s.en i d e;exact⟨v,Rx,q.plain s.mem r⟩
 ·exact q.elim
theorem rM{d:D}{v:V}(hd:∀ads H,RD X.K ads H d v)(σ:L2.St)(H:Hp)(Q:VK)(h:tE X.K (ev G (.bf d)) σ H Q):tC v σ H Q:=by
 obtain⟨ads,M,ρ,s,q⟩:=h;exact cj.plain q s.mem (hd _ _)
theorem MS{d:D}{e:Expr}(h:bX cc (.bf d) e=true):PE X e (tE X.K (ev G (.bf d))):=by
 replace h:AF d e=true:=h
 rcases(w6 _ _).mp h with h | h
 case inr =>
  refine eA (P:=λe=>PE X e _) h λop x pos h=>?_
  replace h:=(aK _ _).mp h
  have h0:=h.1
  replace h:=h.2
  cases op<;>first | exact absurd (show false=true from h0) a6 | skip
  refine bW (P:=λx=>PE X (.UnaryOp .USub x pos) _) h λc j p h=>?_;clear h0;rcases d with _|_ | i | _|_|_|_<;>first | exact absurd (show false=true from h) a6 | skip
  rcases c with _|_ | k | _|_|_|_|_<;>first | exact absurd (show false=true from h) a6 | skip
  have h:i=-k:=eq_of_beq h;subst h;exact fx (FI zx oE) λσ H Q q=>⟨k,rfl,rM (λ_ _=>cN _) σ H Q q⟩
 refine bW (P:=λe=>PE X e _) h λc j pos h=>?_
 cases d with
 | int i =>
  cases c<;>first | exact absurd (show false=true from h) a6 | skip
  have h:=eq_of_beq (show(i==_)=true from h);subst h;exact fx oE (rM λ_ _=>cN _)
 | bl i =>
  cases c<;>first | exact absurd (show false=true from h) a6 | skip
  have h:=eq_of_beq (show(i==_)=true from h);subst h;exact fx FA (rM λ_ _=>j4 _)
 | str i =>
  cases c<;>first | exact absurd (show false=true from h) a6 | skip
  have h:=eq_of_beq (show(i==_)=true from h);subst h;exact fx oF (rM λ_ _=>t8 _)
 | aJ =>
  cases c<;>first | exact absurd (show false=true from h) a6 | skip
  exact fx G3 (rM λ_ _=>jN)
 | tup _=>cases h
 | aD _=>cases h
 | ls _=>cases h
theorem MT{op:Ck}{a b:C}{e:Expr}(vR:∀e,bX cc a e=true->PE X e (tE X.K (ev G a)))(II:∀e,bX cc b e=true->PE X e (tE X.K (ev G b)))(h:bX cc (.bin op a b) e=true):PE X e (tE X.K (ev G (.bin op a b))):=by
 refine t_ (P:=λe=>PE X e _) h λl o r pos h=>?_;have h:(o==D1 op&&bX cc a l&&bX cc b r)=true:=h;simp only[aK,gR]at h;obtain⟨⟨rfl,h1⟩,h2⟩:=h;refine fx (LO (Ik op) (vR l h1) (II r h2)) λσ H Q q=>?_;exact two (λm r1 r2 h=>⟨_,_,_,_,m,r1,r2,h⟩) q
theorem ui{K:Frag}{ads:List Addr}{H:Hp}{Q:VK}{o:bJ Bool}(h:cj K ads H Q (o.bind λr M=>.ok (.d (.bl r)) M)):D3 K ads H Q o:=by
 cases o with
 | ok b M=>exact λH' aq g m=>h (.bl b) H' aq g m (show RD K aq H' (.bl b) _ from j4 _)
 | err _ _=>exact h
 | af=>exact h
theorem AH{b:C}{e:Expr}(hn:isNone e=true)(hb:bX cc b e=true):b=.bf .aJ:=by
 revert hb;refine bW (P:=λe=>bX cc b e=true->b=.bf .aJ) hn λc j pos hn hb=>?_;cases c<;>first | cases hn | skip
 cases b<;>first | exact absurd (show false=true from hb) a6 | skip
 rename_i d
 cases d<;>first | rfl | exact absurd (show false=true from hb) a6
theorem FX{op:xP}{a b:C}{e:Expr}(g:Good kk X cc G)(vR:∀e,bX cc a e=true->PE X e (tE X.K (ev G a)))(II:∀e,bX cc b e=true->PE X e (tE X.K (ev G b)))(h:bX cc (.cmp op a b) e=true):PE X e (tE X.K (ev G (.cmp op a b)))/\PT X e (iN (tE X.K (ev G (.cmp op a b)))):=by
 refine fO (P:=λe=>PE X e (tE X.K (ev G (.cmp op a b)))/\PT X e (iN (tE X.K (ev G (.cmp op a b))))) h λl ops rs pos h=>?_;rcases ops with _|⟨o,_|⟨o2,ops⟩⟩<;>rcases rs with _|⟨r,_|⟨r2,rs⟩⟩<;>first | exact absurd (show false=true from h) a6 | skip
 have h:(o==Il op && !behindInMarks o r&&(if op=.qq\/op=.fc then isNone r else true)&&bX cc a l&&bX cc b r)=true:=h;simp only[aK,gR,ic]at h;obtain⟨⟨⟨⟨rfl,hm⟩,hn⟩,h1⟩,h2⟩:=h;have Pk:=g.room.un
 have qk:∀σ H Q,tE X.K (ev G (.cmp op a b)) σ H Q->C5 (D4 X.K op) (tE X.K (ev G a)) (tE X.K (ev G b)) σ H Q:=by
  intro σ H Q q;by_cases TK:op=.qq\/op=.fc
  ·rw[aS TK]at hn;have eb:=AH hn h2;subst eb;obtain⟨ads,M,ρ,s,q⟩:=q;refine dm s q λw M1 v H1 ai s1 jo q1=>⟨ai,M1,ρ,s1,?_⟩;intro vy H2 bU g2 m2 ry;have ey:=lJ ry;refine⟨bU,M1,w,.d .aJ,m2,g2.rw jo,(show RD X.K bU H2 .aJ vy by rw[ey];exact jN),λ_=>ey,?_⟩;have q1:cj X.K ai H1 Q ((bg op w (.d .aJ) M1).bind λr M=>.ok (.d (.bl r)) M):=q1;exact ui (q1.shift g2 s1.mem m2)
  ·exact two (λm r1 r2 h=>⟨_,_,_,_,m,r1,r2,λz=>absurd z TK,ui h⟩) q
 exact⟨fx (oO (jO ∅ op) (vR l h1) (II r h2) hm) qk,Ee (oP (jO ∅ op) (vR l h1) (II r h2) hm) λσ H Q q=>qk σ H _ q⟩
theorem MU{a:C}{e:Expr}(vR:∀e,bX cc a e=true->PE X e (tE X.K (ev G a)))(h:bX cc (.neg a) e=true):PE X e (tE X.K (ev G (.neg a))):=by
 refine eA (P:=λe=>PE X e _) h λop x pos h=>?_;obtain⟨h0,h⟩:=(aK _ _).mp h;cases op<;>first | exact absurd (show false=true from h0) a6 | skip
 refine fx (G8 (vR x h)) λσ H Q q=>?_;obtain⟨ads,M,ρ,s,q⟩:=q;refine dm s q λw M1 v H1 ai s1 jo q1=>?_;rcases w with⟨_ | b | _|_|_|_⟩|_<;>first | exact q1.elim | skip
 exact⟨b,hG jo,cj.plain q1 s1.mem (j4 _)⟩
theorem MV{cs:List C}{e:Expr}(ih:∀es,bY cc cs es=true->PA X es (Cn X.K (bx G cs)))(h:bX cc (.tup cs) e=true):PE X e (tE X.K (ev G (.tup cs))):=by
 refine iw (P:=λe=>PE X e _) h λes k pos h=>?_;refine fx (lb (ih es h)) λσ H Q q=>?_;obtain⟨ads,M,ρ,s,q⟩:=q;refine⟨ads,M,ρ,s,?_⟩;simp only[An]at q
 cases hq:bx G cs ρ M with
 | ok ds M1 =>
  rw[hq]at q;have q:cj X.K ads H Q (if ds.length<=sizeLine then .ok (.d (.tup ds)) M1 else .af):=q;intro vs H1 ai g1 m1 r1;split at q
  ·rename_i hz
   exact⟨by rw[<- r1.len];exact hz,λp hp=>(q.shift g1 s.mem m1).tuple m1 r1 hp⟩
  ·exact q.elim
 | err _ _=>rw[hq]at q;exact q
 | af=>rw[hq]at q;exact q
theorem MW{cs:List C}{e:Expr}(ih:∀es,bY cc cs es=true->PA X es (Cn X.K (bx G cs)))(h:bX cc (.lst cs) e=true):PE X e (tE X.K (ev G (.lst cs))):=by
 refine xV (P:=λe=>PE X e _) h λes pos h=>?_;refine fx (Hu (ih es h)) λσ H Q q=>?_;obtain⟨ads,M,ρ,s,q⟩:=q;refine⟨ads,M,ρ,s,?_⟩;simp only[Ao]at q
 cases hq:bx G cs ρ M with
 | ok ds M1 =>
  rw[hq]at q;have q:cj X.K ads H Q (if ds.length<=sizeLine then .ok (.lv ds) M1 else .af):=q;intro vs H1 ai g1 m1 r1;split at q
  ·rename_i hz
   exact⟨by rw[<- r1.len];exact hz,λp hp=>(q.shift g1 s.mem m1).list m1 r1 hp⟩
  ·exact q.elim
 | err _ _=>rw[hq]at q;exact q
 | af=>rw[hq]at q;exact q
theorem lR{K:Frag}{ads aq:List Addr}{H H':Hp}{w:W}{v:V}{M1:ag}{d:D}{M2:ag}(m:aR K ads H M)(g:av ads aq H H')(m1:aR K aq H' M1)(r:Ii K aq H H' w v)(e:own w M1=.ok d M2):∃bU,av ads bU H H'/\aR K bU H' M2/\RD K bU H' d v:=by
 cases w with
 | d x=>cases e;exact⟨aq,g,m1,r⟩
 | lv ds =>
  cases e;obtain⟨a,xs,rfl,h0,h1,n,r⟩:=r;refine⟨aq++[a],⟨?_,λb hb nb=>?_,g.kept,g.eP,g.gh⟩,m1.push n ⟨xs,h1,r⟩,?_⟩
  ·obtain⟨t,e⟩:=g.pre;exact⟨t++[a],by rw[e,yP]⟩
  ·rcases fX.mp hb with z | z
   ·exact g.new b z nb
   ·have:b=a:=by simpa using z
    subst this;exact h0
  ·unfold RD;exact⟨a,rfl,by rw[qw (by rw[m1.len];exact aL _)];simp[m1.len]⟩
theorem MX:PA X [] (Cn X.K (bx G [])):=KG e7 λσ H Q q=>by
 obtain⟨ads,M,ρ,s,q⟩:=q;exact q [] H ads (av.refl _ _) s.mem (by unfold aT;rfl)
theorem IJ{c:C}{cs:List C}{e:Expr}{es:List Expr}(hs:a_ e=true)(ha:PE X e (tE X.K (ev G c)))(hr:PA X es (Cn X.K (bx G cs))):PA X (e::es) (Cn X.K (bx G (c::cs))):=by
 refine KG (cC ha hr (cR hs es X.env)) λσ H Q q=>?_;obtain⟨ads,M,ρ,s,q⟩:=q;refine⟨ads,M,ρ,s,?_⟩;simp only[fm,eC]at q
 cases hq:ev G c ρ M with
 | ok w M1 =>
  rw[hq]at q;intro v H1 ai g1 m1 r1
  cases ho:own w M1 with
  | ok d M2 =>
   have q:rF X.K ads H Q ((own w M1).bind λd M=>(bx G cs ρ M).bind λds M=>.ok (d::ds) M):=q;rw[ho]at q;obtain⟨bU,g2,m2,rd⟩:=lR s.mem g1 m1 r1 ho;refine⟨bU,M2,ρ,s.grow g2 m2,?_⟩;have q:rF X.K ads H Q ((bx G cs ρ M2).bind λds M=>.ok (d::ds) M):=q
   cases AI:bx G cs ρ M2 with
   | ok ds M3 =>
    rw[AI]at q;intro vs H3 dt g3 m3 r3;refine q (v::vs) H3 dt (g2.trans g3) m3 ?_;unfold aT;exact⟨v,vs,rfl,g3.rd _ _ rd,r3⟩
   | err _ _=>rw[AI]at q;exact EX.shift (show EX.post X.K ads H _ _ from q) g2
   | af=>rw[AI]at q;exact q
  | err _ _=>cases w<;>cases ho
  | af=>cases w<;>cases ho
 | err _ _=>rw[hq]at q;exact q
 | af=>rw[hq]at q;exact q
end
end
section
variable [EX]
section
variable {kk:Nat} {X:Cx} {cc:CC} {G:bc}
theorem vS{o1 o2:xP}{a b c:C}{e:Expr}(g:Good kk X cc G)(vR:∀e,bX cc a e=true->PE X e (tE X.K (ev G a)))(II:∀e,bX cc b e=true->PE X e (tE X.K (ev G b)))(Pn:∀e,bX cc c e=true->PE X e (tE X.K (ev G c)))(h:bX cc (.chain o1 o2 a b c) e=true):PE X e (tE X.K (ev G (.chain o1 o2 a b c)))/\PT X e (iN (tE X.K (ev G (.chain o1 o2 a b c)))):=by
 refine fO (P:=λe=>PE X e (tE X.K (ev G (.chain o1 o2 a b c)))/\PT X e (iN (tE X.K (ev G (.chain o1 o2 a b c))))) h λl ops rs pos h=>?_;rcases ops with _|⟨p,_|⟨q,_|⟨_,ops⟩⟩⟩<;>rcases rs with _|⟨m,_|⟨r,_|⟨_,rs⟩⟩⟩<;>first | exact absurd (show false=true from h) a6 | skip
 have h:(p==Il o1&&q==Il o2 && !lastMarks [p,q] [m,r] && !(decide (o1=.qq)||decide (o1=.fc)||decide (o2=.qq)||decide (o2=.fc))&&bX cc a l&&bX cc b m&&bX cc c r)=true:=h;simp only[aK,gR,ic,CA,decide_eq_false_iff_not]at h;obtain⟨⟨⟨⟨⟨⟨rfl,rfl⟩,hm⟩,⟨⟨⟨n1,n2⟩,n3⟩,n4⟩⟩,h1⟩,h2⟩,h3⟩:=h;have Pk:=g.room.un
 have qk:∀σ H Q,tE X.K (ev G (.chain o1 o2 a b c)) σ H Q->tF (D4 X.K o1) (D4 X.K o2) (tE X.K (ev G a)) (tE X.K (ev G b)) (tE X.K (ev G c)) σ H Q:=by
  intro σ H Q q;obtain⟨ads,M,ρ,s,q⟩:=q;refine dm s q λx M1 v H1 ai s1 rx q1=>?_;refine⟨ai,M1,ρ,s1,?_⟩
  cases hq:ev G b ρ M1 with
  | ok y M2 =>
   rw[hq]at q1;intro vy H2 bU g2 m2 ry;have q2:cj X.K ai H1 Q ((bg o1 x y M2).bind λr M=>if r then (ev G c ρ M).bind λz M=>(bg o2 y z M).bind λr M=>.ok (.d (.bl r)) M else .ok (.d (.bl false)) M):=q1;have s2:=s1.grow g2 m2;refine⟨bU,M2,x,y,m2,g2.rw rx,ry.rw,λz=>absurd z (by simp[n1,n2]),?_⟩
   cases hc:bg o1 x y M2 with
   | ok k M3 =>
    rw[hc]at q2;intro H3 dt g3 m3;have s3:=s2.grow g3 m3;have V2:=g3.rw ry.rw;refine⟨k,rfl,?_⟩;have q3:cj X.K dt H3 Q (if k then (ev G c ρ M3).bind λz M=>(bg o2 y z M).bind λr M=>.ok (.d (.bl r)) M else .ok (.d (.bl false)) M3):=cj.shift q2 (g2.trans g3) s1.mem m3
    cases k with
    | false=>rw[a8 (by simp)]at q3⊢;exact cj.plain q3 m3 (j4 _)
    | true =>
     rw[aS rfl]at q3⊢;refine⟨dt,M3,ρ,s3,?_⟩
     cases hz:ev G c ρ M3 with
     | ok z M4 =>
      rw[hz]at q3;intro vz H4 Ef g4 m4 rz;exact⟨Ef,M4,y,z,m4,g4.rw V2,rz.rw,λw=>absurd w (by simp[n3,n4]),ui (cj.shift (o:=(bg o2 y z M4).bind λr M=>.ok (.d (.bl r)) M) q3 g4 m3 m4)⟩
     | err _ _=>rw[hz]at q3;exact q3
     | af=>rw[hz]at q3;exact q3
   | err _ _=>rw[hc]at q2;exact EX.shift (show EX.post X.K ai H1 _ _ from q2) g2
   | af=>rw[hc]at q2;exact q2
  | err _ _=>rw[hq]at q1;exact q1
  | af=>rw[hq]at q1;exact q1
 exact⟨fx (zy (jO ∅ o1) (jO ∅ o2) (vR l h1) (II m h2) (Pn r h3) hm) qk,Ee (zz (jO ∅ o1) (jO ∅ o2) (vR l h1) (II m h2) (Pn r h3) hm) λσ H Q q=>qk σ H _ q⟩
theorem xY{P:Expr->Prop}{e:Expr}(h:pC e=true)(k:∀j p,P (.Constant (.bool true) j p)):P e:=bW (P:=P) h λc j p h=>by
 rcases c with _ | b | _|_|_|_|_|_<;>first | exact absurd (show false=true from h) a6 | skip
 cases b with
 | true=>exact k j p
 | false=>exact absurd (show false=true from h) a6
theorem rN{ng:Bool}{a:C}{σ:L2.St}{H:Hp}{Q:VK}(q:tE X.K (ev G (.fL ng a)) σ H Q):C5 (λx y H Q=>∃b c,x=.bl b/\y=.bl c/\Q (.bl (ng != (b==c))) H) (tE X.K (ev G a)) (tC (.bl true)) σ H Q:=by
 obtain⟨ads,M,ρ,s,q⟩:=q;refine dm s q λw M1 v H1 ai s1 jo q1=>?_;rcases w with⟨_ | b | _|_|_|_|_⟩|_<;>first | exact q1.elim | skip
 refine⟨b,true,hG jo,rfl,?_⟩;rw[show(b==true)=b from by cases b<;>rfl];exact cj.plain q1 s1.mem (j4 _)
theorem AJ{ng:Bool}{a:C}{e:Expr}(vR:∀e,bX cc a e=true->PE X e (tE X.K (ev G a)))(h:bX cc (.fL ng a) e=true):PE X e (tE X.K (ev G (.fL ng a)))/\PT X e (iN (tE X.K (ev G (.fL ng a)))):=by
 refine fO (P:=λe=>PE X e (tE X.K (ev G (.fL ng a)))/\PT X e (iN (tE X.K (ev G (.fL ng a))))) h λl ops rs pos h=>?_;rcases ops with _|⟨o,_|⟨o2,ops⟩⟩<;>rcases rs with _|⟨r,_|⟨r2,rs⟩⟩<;>first | exact absurd (show false=true from h) a6 | skip
 have h:(o==(if ng=true then CmpOp.IsNot else CmpOp.Is) && !behindInMarks o r&&pC r&&bX cc a l)=true:=h;simp only[aK,gR,ic]at h;obtain⟨⟨⟨ho,hm⟩,hr⟩,h1⟩:=h;have pc:PE X r (tC (.bl true)):=xY (P:=λr=>PE X r (tC (.bl true))) hr λj p=>FA
 cases ng with
 | true =>
  have ho:o=.IsNot:=ho;subst ho
  have qk:∀σ H Q,tE X.K (ev G (.fL true a)) σ H Q->C5 (λx y H Q=>∃b c,x=.bl b/\y=.bl c/\Q (.bl (!(b==c))) H) (tE X.K (ev G a)) (tC (.bl true)) σ H Q:=λσ H Q q=>by
   have:=rN q;simp only[Bool.true_bne]at this;exact this
  exact⟨fx (oO vD (vR l h1) pc hm) qk,Ee (oP vD (vR l h1) pc hm) λσ H Q q=>qk σ H _ q⟩
 | false =>
  have ho:o=.Is:=ho;subst ho
  have qk:∀σ H Q,tE X.K (ev G (.fL false a)) σ H Q->C5 (λx y H Q=>∃b c,x=.bl b/\y=.bl c/\Q (.bl (b==c)) H) (tE X.K (ev G a)) (tC (.bl true)) σ H Q:=λσ H Q q=>by
   have:=rN q;simp only[Bool.false_bne]at this;exact this
  exact⟨fx (oO z9 (vR l h1) pc hm) qk,Ee (oP z9 (vR l h1) pc hm) λσ H Q q=>qk σ H _ q⟩
theorem Eg{ng:Bool}{a:C}(ρ:En)(M:ag)(w:W)(M':ag)(h:ev G (.fL ng a) ρ M=.ok w M'):∃k,w=.d (.bl k):=by
 simp only[vL]at h
 cases h1:ev G a ρ M with
 | ok x M1 =>
  rw[h1]at h;rcases x with⟨_ | b | _|_|_|_|_⟩|_<;>first | cases h | skip
  exact⟨_,rfl⟩
 | err _ _=>rw[h1]at h;cases h
 | af=>rw[h1]at h;cases h
theorem FY{op:BoolOp}:∀(cs:List C)(es:List Expr)(pos:Pos),(∀c∈cs,∀e,bX cc c e=true->PE X e (tE X.K (ev G c)))->bY cc cs es=true->es≠[]->PE X (.BoolOp .And es pos) (tE X.K (g_ G cs))
 | [],[],_,_,_,h=>absurd rfl h
 | [],_::_,_,_,h,_=>by cases h
 | _::_,[],_,_,h,_=>by cases h
 | c::cs,e::es,pos,ih,h,_=>by
  have h':(a_ e&&bX cc c e&&bY cc cs es)=true:=h;simp only[aK]at h';have he:=ih c eg e h'.1.2
  cases es with
  | nil =>
   cases cs with
   | cons _ _=>cases h'.2
   | nil =>
    refine fx (zg he) λσ H Q q=>?_;obtain⟨ads,M,ρ,s,q⟩:=q;refine⟨ads,M,ρ,s,?_⟩;simp only[jJ,ip]at q
    cases hq:ev G c ρ M with
    | ok w M1=>rw[hq]at q;exact q
    | err _ _=>rw[hq]at q;exact q
    | af=>rw[hq]at q;exact q
  | cons e2 es =>
   cases cs with
   | nil=>cases h'.2
   | cons c2 cs =>
    have hr:=FY (op:=op) (c2::cs) (e2::es) pos (λc hc=>ih c (dC _ hc)) h'.2 (by simp);refine fx (G7 he hr) λσ H Q q=>?_;obtain⟨ads,M,ρ,s,q⟩:=q
    have q:cj X.K ads H Q ((ev G c ρ M).bind λx M=>match c2::cs,x with
     | [],x=>.ok x M
     | _,.d (.bl true)=>g_ G (c2::cs) ρ M
     | _,.d (.bl false)=>.ok (.d (.bl false)) M
     | _,_=>.af):=by unfold g_ at q;exact q
    refine dm s q λw M1 v H1 ai s1 jo q1=>?_;rcases w with⟨_ | b | _|_|_|_⟩|_<;>first | exact q1.elim | skip
    refine⟨b,hG jo,?_⟩
    cases b with
    | false=>rw[a8 (by simp)];exact cj.plain q1 s1.mem (j4 _)
    | true=>rw[aS rfl];exact⟨ai,M1,ρ,s1,q1⟩
theorem MY:∀(cs:List C)(es:List Expr)(pos:Pos),(∀c∈cs,∀e,bX cc c e=true->PE X e (tE X.K (ev G c)))->bY cc cs es=true->es≠[]->PE X (.BoolOp .Or es pos) (tE X.K (mV G cs))
 | [],[],_,_,_,h=>absurd rfl h
 | [],_::_,_,_,h,_=>by cases h
 | _::_,[],_,_,h,_=>by cases h
 | c::cs,e::es,pos,ih,h,_=>by
  have h':(a_ e&&bX cc c e&&bY cc cs es)=true:=h;simp only[aK]at h';have he:=ih c eg e h'.1.2
  cases es with
  | nil =>
   cases cs with
   | cons _ _=>cases h'.2
   | nil =>
    refine fx (zg he) λσ H Q q=>?_;obtain⟨ads,M,ρ,s,q⟩:=q;refine⟨ads,M,ρ,s,?_⟩;simp only[lF,jK]at q
    cases hq:ev G c ρ M with
    | ok w M1=>rw[hq]at q;exact q
    | err _ _=>rw[hq]at q;exact q
    | af=>rw[hq]at q;exact q
  | cons e2 es =>
   cases cs with
   | nil=>cases h'.2
   | cons c2 cs =>
    have hr:=MY (c2::cs) (e2::es) pos (λc hc=>ih c (dC _ hc)) h'.2 (by simp);refine fx (LF he hr) λσ H Q q=>?_;obtain⟨ads,M,ρ,s,q⟩:=q
    have q:cj X.K ads H Q ((ev G c ρ M).bind λx M=>match c2::cs,x with
     | [],x=>.ok x M
     | _,.d (.bl false)=>mV G (c2::cs) ρ M
     | _,.d (.bl true)=>.ok (.d (.bl true)) M
     | _,_=>.af):=by unfold mV at q;exact q
    refine dm s q λw M1 v H1 ai s1 jo q1=>?_;rcases w with⟨_ | b | _|_|_|_⟩|_<;>first | exact q1.elim | skip
    refine⟨b,hG jo,?_⟩
    cases b with
    | true=>rw[aS rfl];exact cj.plain q1 s1.mem (j4 _)
    | false=>rw[a8 (by simp)];exact⟨ai,M1,ρ,s1,q1⟩
theorem pF{K:Frag}{ads:List Addr}{H:Hp}{M:ag}{ρ:En}{σ:L2.St}{o:En->ag->bJ Bool}{k:Bool->ag->bJ Bool}{Q:Bool->Hp->Prop}{R:Bool->Hp->Prop}(s:SR K ads M ρ σ H)(h:Cm K ads H Q ((o ρ M).bind k))(hk:∀w M1 H1 ai,SR K ai M1 ρ σ H1->Cm K ai H1 Q (k w M1)->R w H1):mK K o σ H R:=by
 refine⟨ads,M,ρ,s,?_⟩
 cases q:o ρ M with
 | ok w M1 =>
  rw[q]at h;have h:Cm K ads H Q (k w M1):=h;exact λH1 ai g1 m1=>hk w M1 H1 ai (s.grow g1 m1) (h.shift g1)
 | err _ _=>rw[q]at h;exact h
 | af=>rw[q]at h;exact h
theorem MZ{c:C}{σ:L2.St}{H:Hp}{Q:Bool->Hp->Prop}(h:mK X.K (dy G (.val c)) σ H Q):tE X.K (ev G c) σ H λx H'=>∃k,zA X.K x H' k/\Q k H':=by
 obtain⟨ads,M,ρ,s,q⟩:=h;refine⟨ads,M,ρ,s,?_⟩;simp only[pw]at q
 cases hq:ev G c ρ M with
 | ok w M1 =>
  rw[hq]at q;intro v H1 ai g1 m1 r1;have q:Cm X.K ads H Q (match mU M1 w with | some r=>.ok r M1 | none=>.af):=q
  cases ht:mU M1 w with
  | none=>rw[ht]at q;exact q.elim
  | some k=>rw[ht]at q;exact⟨k,MN m1 r1.rw ht,q H1 ai g1 m1⟩
 | err _ _=>rw[hq]at q;exact q
 | af=>rw[hq]at q;exact q
theorem Eh{e:Expr}(h:gJ e=true)(env:Env):∀gX,isTrue e env gX=(do let v <- gX;standAt e.pos;holding [v] (truthy v)):=by
 cases e<;>first | (intro _;rfl) | exact absurd (show false=true from h) a6
theorem Ei{c:C}{e:Expr}(hp:gJ e=true)(he:PE X e (tE X.K (ev G c))):PT X e (mK X.K (dy G (.val c))) :=
 Ee (zB he (Eh hp X.env)) λσ H Q q=>MZ q
theorem uj{c:C}{e:Expr}(hb:∀ρ M w M',ev G c ρ M=.ok w M'->∃k,w=.d (.bl k))(he:PT X e (iN (tE X.K (ev G c)))):PT X e (mK X.K (dy G (.val c))):=by
 refine Ee he λσ H Q q=>?_;obtain⟨ads,M,ρ,s,q⟩:=q;refine⟨ads,M,ρ,s,?_⟩;simp only[pw]at q
 cases hq:ev G c ρ M with
 | ok w M1 =>
  rw[hq]at q;obtain⟨k,rfl⟩:=hb _ _ _ _ hq;intro v H1 ai g1 m1 r1;exact⟨k,hG r1,q H1 ai g1 m1⟩
 | err _ _=>rw[hq]at q;exact q
 | af=>rw[hq]at q;exact q
theorem IK{op:xP}{a b:C}(ρ:En)(M:ag)(w:W)(M':ag)(h:ev G (.cmp op a b) ρ M=.ok w M'):∃k,w=.d (.bl k):=by
 simp only[Al]at h
 cases h1:ev G a ρ M with
 | ok x M1 =>
  rw[h1]at h;simp only[bJ.bind]at h
  cases h2:ev G b ρ M1 with
  | ok y M2 =>
   rw[h2]at h;simp only at h
   cases h3:bg op x y M2 with
   | ok k M3=>rw[h3]at h;cases h;exact⟨k,rfl⟩
   | err _ _=>rw[h3]at h;cases h
   | af=>rw[h3]at h;cases h
  | err _ _=>rw[h2]at h;cases h
  | af=>rw[h2]at h;cases h
 | err _ _=>rw[h1]at h;cases h
 | af=>rw[h1]at h;cases h
theorem AK{o1 o2:xP}{a b c:C}(ρ:En)(M:ag)(w:W)(M':ag)(h:ev G (.chain o1 o2 a b c) ρ M=.ok w M'):∃k,w=.d (.bl k):=by
 simp only[rE]at h
 cases h1:ev G a ρ M with
 | ok x M1 =>
  rw[h1]at h;simp only[bJ.bind]at h
  cases h2:ev G b ρ M1 with
  | ok y M2 =>
   rw[h2]at h;simp only at h
   cases h3:bg o1 x y M2 with
   | ok k M3 =>
    rw[h3]at h;simp only at h
    cases k with
    | false=>cases h;exact⟨_,rfl⟩
    | true =>
     simp only[dD]at h
     cases h4:ev G c ρ M3 with
     | ok z M4 =>
      rw[h4]at h;simp only at h
      cases h5:bg o2 y z M4 with
      | ok k M5=>rw[h5]at h;cases h;exact⟨k,rfl⟩
      | err _ _=>rw[h5]at h;cases h
      | af=>rw[h5]at h;cases h
     | err _ _=>rw[h4]at h;cases h
     | af=>rw[h4]at h;cases h
   | err _ _=>rw[h3]at h;cases h
   | af=>rw[h3]at h;cases h
  | err _ _=>rw[h2]at h;cases h
  | af=>rw[h2]at h;cases h
 | err _ _=>rw[h1]at h;cases h
 | af=>rw[h1]at h;cases h
theorem M_{t:dZ}{e:Expr}{pos:Pos}(ih:PT X e (mK X.K (dy G t))):PT X (.UnaryOp .Not e pos) (mK X.K (dy G (.neg t))):=by
 refine Ee (G6 ih) λσ H Q q=>?_;obtain⟨ads,M,ρ,s,q⟩:=q;exact pF s q λw M1 H1 ai s1 q1=>q1 H1 ai (av.refl _ _) s1.mem
theorem FZ:∀(ts:List dZ)(es:List Expr)(pos:Pos),(∀t∈ts,∀e,jP cc t e=true->PT X e (mK X.K (dy G t)))->lQ cc ts es=true->es≠[]->PW X (.BoolOp .And es pos) (mK X.K (eU G ts))
 | [],[],_,_,_,h=>absurd rfl h
 | [],_::_,_,_,h,_=>by cases h
 | _::_,[],_,_,h,_=>by cases h
 | c::cs,e::es,pos,ih,h,_=>by
  have h':(jP cc c e&&lQ cc cs es)=true:=h;simp only[aK]at h';have he:=ih c eg e h'.1
  cases es with
  | nil =>
   cases cs with
   | cons _ _=>cases h'.2
   | nil =>
    refine Pm (vj he) λσ H Q q=>?_;obtain⟨ads,M,ρ,s,q⟩:=q;refine⟨ads,M,ρ,s,?_⟩;simp only[jL,iq]at q
    cases hq:dy G c ρ M with
    | ok w M1=>rw[hq]at q;exact q
    | err _ _=>rw[hq]at q;exact q
    | af=>rw[hq]at q;exact q
  | cons e2 es =>
   cases cs with
   | nil=>cases h'.2
   | cons c2 cs =>
    have hr:=FZ (c2::cs) (e2::es) pos (λc hc=>ih c (dC _ hc)) h'.2 (by simp);refine Pm (zf he hr) λσ H Q q=>?_;obtain⟨ads,M,ρ,s,q⟩:=q
    have q:Cm X.K ads H Q ((dy G c ρ M).bind λx M=>match c2::cs,x with
     | [],x=>.ok x M
     | _,true=>eU G (c2::cs) ρ M
     | _,false=>.ok false M):=by unfold eU at q;exact q
    refine pF s q λw M1 H1 ai s1 q1=>?_
    cases w with
    | false=>rw[a8 (by simp)];exact q1 H1 ai (av.refl _ _) s1.mem
    | true=>rw[aS rfl];exact⟨ai,M1,ρ,s1,q1⟩
theorem F0:∀(ts:List dZ)(es:List Expr)(pos:Pos),(∀t∈ts,∀e,jP cc t e=true->PT X e (mK X.K (dy G t)))->lQ cc ts es=true->es≠[]->PW X (.BoolOp .Or es pos) (mK X.K (eV G ts))
 | [],[],_,_,_,h=>absurd rfl h
 | [],_::_,_,_,h,_=>by cases h
 | _::_,[],_,_,h,_=>by cases h
 | c::cs,e::es,pos,ih,h,_=>by
  have h':(jP cc c e&&lQ cc cs es)=true:=h;simp only[aK]at h';have he:=ih c eg e h'.1
  cases es with
  | nil =>
   cases cs with
   | cons _ _=>cases h'.2
   | nil =>
    refine Pm (G5 he) λσ H Q q=>?_;obtain⟨ads,M,ρ,s,q⟩:=q;refine⟨ads,M,ρ,s,?_⟩;simp only[jM,ir]at q
    cases hq:dy G c ρ M with
    | ok w M1=>rw[hq]at q;exact q
    | err _ _=>rw[hq]at q;exact q
    | af=>rw[hq]at q;exact q
  | cons e2 es =>
   cases cs with
   | nil=>cases h'.2
   | cons c2 cs =>
    have hr:=F0 (c2::cs) (e2::es) pos (λc hc=>ih c (dC _ hc)) h'.2 (by simp);refine Pm (LB he hr) λσ H Q q=>?_;obtain⟨ads,M,ρ,s,q⟩:=q
    have q:Cm X.K ads H Q ((dy G c ρ M).bind λx M=>match c2::cs,x with
     | [],x=>.ok x M
     | _,false=>eV G (c2::cs) ρ M
     | _,true=>.ok true M):=by unfold eV at q;exact q
    refine pF s q λw M1 H1 ai s1 q1=>?_
    cases w with
    | true=>rw[aS rfl];exact q1 H1 ai (av.refl _ _) s1.mem
    | false=>rw[a8 (by simp)];exact⟨ai,M1,ρ,s1,q1⟩
theorem Na{t:dZ}{a b:C}{c x y:Expr}{pos:Pos}(ht:PT X c (mK X.K (dy G t)))(ha:PE X x (tE X.K (ev G a)))(hb:PE X y (tE X.K (ev G b))):PE X (.IfExp c x y pos) (tE X.K (ev G (.ite t a b))):=by
 refine fx (zh ht ha hb) λσ H Q q=>?_;obtain⟨ads,M,ρ,s,q⟩:=q;refine⟨ads,M,ρ,s,?_⟩;simp only[Am]at q
 cases hq:dy G t ρ M with
 | ok w M1 =>
  rw[hq]at q;intro H1 ai g1 m1;have q:cj X.K ads H Q (if w then ev G a ρ M1 else ev G b ρ M1):=q;have q:=q.shift g1 s.mem m1
  cases w with
  | true=>rw[aS rfl]at q⊢;exact⟨ai,M1,ρ,s.grow g1 m1,q⟩
  | false=>rw[a8 (by simp)]at q⊢;exact⟨ai,M1,ρ,s.grow g1 m1,q⟩
 | err _ _=>rw[hq]at q;exact q
 | af=>rw[hq]at q;exact q
end
end
section
variable [EX]
section
variable {kk:Nat} {X:Cx} {cc:CC} {G:bc}
theorem um{b:Expr}(h:iX b=true):vB b:=by
 intro o i;cases b<;>first | rfl | exact absurd (show false=true from h) a6
theorem Nb{a b:C}{e i:Expr}{pos:Pos}(g:Good kk X cc G)(hs:iX i=true)(ha:PE X e (tE X.K (ev G a)))(hb:PE X i (tE X.K (ev G b))):PE X (.Subscript e i pos) (tE X.K (ev G (.sub a b))):=by
 have Pk:=g.room.un;refine fx (L8 (Im ∅) ha hb (um hs)) λσ H Q q=>?_;exact two (λm r1 r2 h=>⟨_,_,_,_,m,r1,r2,h⟩) q
def V3(K:Frag)(ads:List Addr)(H:Hp)(Q:Option Int->Hp->Prop):bJ (Option Int)->Prop
 | .ok o M=>∀H' aq,av ads aq H H'->aR K aq H' M->Q o H'
 | .err x M=>EX.post K ads H x M
 | .af=>False
def tO(K:Frag)(o:En->ag->bJ (Option Int)):TO:=λσ H Q=>∃ads M ρ,SR K ads M ρ σ H/\V3 K ads H Q (o ρ M)
theorem IL:PO X none (tO X.K (qt G none)):=λae s σ H Q I q=>Dk ae s σ H Q I (by
 obtain⟨ads,M,ρ,s,q⟩:=q;exact q H ads (av.refl _ _) s.mem)
theorem IM{c:C}{e:Expr}(h:PE X e (tE X.K (ev G c))):PO X (some e) (tO X.K (qt G (some c))):=λae s σ H Q I q=>Dl h ae s σ H Q I (by
 obtain⟨ads,M,ρ,s,q⟩:=q;refine⟨ads,M,ρ,s,?_⟩;simp only[lG,lH]at q
 cases hq:ev G c ρ M with
 | ok w M1 =>
  rw[hq]at q;intro v H1 ai g1 m1 r1;rcases w with⟨_|_ | i | _|_|_⟩|_<;>first | exact q.elim | skip
  exact⟨i,aU r1,q H1 ai g1 m1⟩
 | err _ _=>rw[hq]at q;exact q
 | af=>rw[hq]at q;exact q)
theorem Nc{a:C}{lo hi:Option C}{e:Expr}{l h:Option Expr}{pos p2:Pos}(ha:PE X e (tE X.K (ev G a)))(hl:PO X l (tO X.K (qt G lo)))(hh:PO X h (tO X.K (qt G hi))):PE X (.Subscript e (.Slice l h none p2) pos) (tE X.K (ev G (.sQ a lo hi))):=by
 refine fx (zN Io ha hl hh) λσ H Q q=>?_;obtain⟨ads,M,ρ,s,q⟩:=q;refine dm s q λw M1 v H1 ai s1 jo q1=>⟨ai,M1,ρ,s1,?_⟩
 cases hq:qt G lo ρ M1 with
 | ok o1 M2 =>
  rw[hq]at q1;have q1:cj X.K ai H1 Q ((qt G hi ρ M2).bind λh M=>lB w o1 h M):=q1;intro H2 bU g2 m2;have s2:=s1.grow g2 m2;refine⟨bU,M2,ρ,s2,?_⟩
  cases RE:qt G hi ρ M2 with
  | ok o2 M3 =>
   rw[RE]at q1;intro H3 dt g3 m3;exact⟨dt,M3,w,m3,g3.rw (g2.rw jo),cj.shift (o:=lB w o1 o2 M3) q1 (g2.trans g3) s1.mem m3⟩
  | err _ _=>rw[RE]at q1;exact EX.shift (show EX.post X.K ai H1 _ _ from q1) g2
  | af=>rw[RE]at q1;exact q1
 | err _ _=>rw[hq]at q1;exact q1
 | af=>rw[hq]at q1;exact q1
theorem rO:∀(cs:List C)(ρ:En)(M:ag)(ds:List D)(M':ag),bx G cs ρ M=.ok ds M'->ds.length=cs.length
 | [],ρ,M,ds,M',h=>by cases h;rfl
 | c::cs,ρ,M,ds,M',h=>by
  simp only[fm,eC]at h
  cases h1:(ev G c ρ M).bind own with
  | ok d M1 =>
   rw[h1]at h;simp only[bJ.bind]at h
   cases h2:bx G cs ρ M1 with
   | ok es M2=>rw[h2]at h;cases h;simp[rO cs ρ M1 es _ h2]
   | err _ _=>rw[h2]at h;cases h
   | af=>rw[h2]at h;cases h
  | err _ _=>rw[h1]at h;cases h
  | af=>rw[h1]at h;cases h
theorem eL{cs:List C}{es:List Expr}(h:bY cc cs es=true)(env:Env)(pos:Pos):(backTo pos (starEach es env)).any (·.1)=false:=by
 have:∀(cs:List C)(es:List Expr),bY cc cs es=true->(starEach es env).any (·.1)=false:=by
  intro cs
  induction cs with
  | nil=>intro es h;cases es with
   | nil=>rfl
   | cons _ _=>cases h
  | cons c cs ih =>
   intro es h
   cases es with
   | nil=>cases h
   | cons e es =>
    have h':(a_ e&&bX cc c e&&bY cc cs es)=true:=h;simp only[aK]at h';rw[cR h'.1.1,y3,ih es h'.2];rfl
 have e:=this cs es h;unfold backTo;simp only[List.any_map];exact e
theorem IP{f:Nat}{cs:List C}{x:Str}{e:Expr}{es:List Expr}{p pos:Pos}(g:Good kk X cc G)(hf:cc.fs[f]?=some (x,cs.length))(hg:glob cc x=true)(hp:cA x=true)(hc:bY cc cs (e::es)=true)(ha:PA X (e::es) (Cn X.K (bx G cs))):PE X (.Call (.Name x p) (e::es) [] pos) (tE X.K (ev G (.call f cs))):=by
 obtain⟨fa,fd,ps,F,hm,hk,hb⟩:=g.fns f x _ hf;obtain⟨E,hE,im⟩:=g.ex
 have e6:a_ e=true/\bY cc cs.tail es=true:=by
  cases cs with
  | nil=>cases hc
  | cons c cs =>
   have h':(a_ e&&bX cc c e&&bY cc cs es)=true:=hc;simp only[aK]at h';exact⟨h'.1.1,h'.2⟩
 refine fx (Dc (pos:=pos) (p:=p) (E:=E) F g.room (g.gl hg) hm hk hb .nil hE ha (gK hp).1 (cR e6.1 es X.env) (eL e6.2 X.env pos)) λσ H Q q=>?_;obtain⟨ads,M,ρ,s,q⟩:=q;refine⟨ads,M,ρ,s,?_⟩;simp only[vK]at q
 cases hq:bx G cs ρ M with
 | ok ds M1 =>
  rw[hq]at q;intro vs H1 ai g1 m1 r1;refine⟨ai,M1,ds,m1,?_,rO cs ρ M ds M1 hq,cj.imp im (cj.shift (o:=G f ds M1) q g1 s.mem m1)⟩;rw[qF];exact r1
 | err _ _=>rw[hq]at q;exact q
 | af=>rw[hq]at q;exact q
def Nd(K:Frag)(ads:List Addr)(H:Hp)(Q:List V->Hp->Prop):bJ (List W)->Prop
 | .ok ws M=>∀vs H' aq,av ads aq H H'->aR K aq H' M->FV K aq H' ws vs->Q vs H'
 | .err x M=>EX.post K ads H x M
 | .af=>False
def KH(K:Frag)(o:En->ag->bJ (List W)):TA:=λσ H Q=>∃ads M ρ,SR K ads M ρ σ H/\Nd K ads H Q (o ρ M)
theorem Nf:PA X [] (KH X.K (cX G [])):=KG e7 λσ H Q q=>by
 obtain⟨ads,M,ρ,s,q⟩:=q;exact q [] H ads (av.refl _ _) s.mem rfl
theorem IQ{c:C}{cs:List C}{e:Expr}{es:List Expr}(hs:a_ e=true)(ha:PE X e (tE X.K (ev G c)))(hr:PA X es (KH X.K (cX G cs))):PA X (e::es) (KH X.K (cX G (c::cs))):=by
 refine KG (cC ha hr (cR hs es X.env)) λσ H Q q=>?_;obtain⟨ads,M,ρ,s,q⟩:=q;refine⟨ads,M,ρ,s,?_⟩;simp only[iV,gI]at q
 cases hq:ev G c ρ M with
 | ok w M1 =>
  rw[hq]at q;intro v H1 ai g1 m1 r1;refine⟨ai,M1,ρ,s.grow g1 m1,?_⟩;have q:Nd X.K ads H Q ((cX G cs ρ M1).bind λds M=>.ok (w::ds) M):=q
  cases AI:cX G cs ρ M1 with
  | ok ds M3 =>
   rw[AI]at q;intro vs H3 dt g3 m3 r3;exact q (v::vs) H3 dt (g1.trans g3) m3 ⟨v,vs,rfl,g3.rw r1.rw,r3⟩
  | err _ _=>rw[AI]at q;exact EX.shift (show EX.post X.K ads H _ _ from q) g1
  | af=>rw[AI]at q;exact q
 | err _ _=>rw[hq]at q;exact q
 | af=>rw[hq]at q;exact q
theorem gF{b:Bi}{cs:List C}{σ:L2.St}{H:Hp}{Q:VK}(q:tE X.K (ev G (.bi b cs)) σ H Q):O4 (Co X.K b) (KH X.K (cX G cs)) σ H Q:=by
 obtain⟨ads,M,ρ,s,q⟩:=q;refine⟨ads,M,ρ,s,?_⟩;simp only[Ap]at q
 cases hq:cX G cs ρ M with
 | ok ws M1 =>
  rw[hq]at q;intro vs H1 ai g1 m1 r1;exact⟨ai,M1,ws,m1,r1,cj.shift (o:=kA b ws M1) q g1 s.mem m1⟩
 | err _ _=>rw[hq]at q;exact q
 | af=>rw[hq]at q;exact q
theorem RF{b:Bi}{cs:List C}{x:Str}{e:Expr}{es:List Expr}{p pos:Pos}(g:Good kk X cc G)(hb:IE b=true)(hx:x=AD b)(hg:glob cc x=true)(hs:a_ e=true)(hc:bY cc cs.tail es=true)(ha:PA X (e::es) (KH X.K (cX G cs))):PE X (.Call (.Name x p) (e::es) [] pos) (tE X.K (ev G (.bi b cs))):=by
 have yG:=g.gl hg;have e6:=cR hs es X.env;have nj:=eL hc X.env pos;have hm:X.mg x=none:=g.blt x (by subst hx;cases b<;>first | (show _∈dr;decide +kernel) | (exact absurd hb (by simp[IE])));subst hx
 cases b with
 | len=>exact fx (fj Iv yG hm boot_len ha ⋯ ⋯ e6 nj) λσ H Q q=>gF q
 | max2=>exact fx (fj (Iw g.calm) yG hm boot_max ha ⋯ ⋯ e6 nj) λσ H Q q=>gF q
 | min2=>exact fx (fj (Iy g.calm) yG hm boot_min ha ⋯ ⋯ e6 nj) λσ H Q q=>gF q
 | iT=>exact fx (fj (D7 g.room) yG hm boot_repr ha ⋯ ⋯ e6 nj) λσ H Q q=>gF q
 | rC=>exact fx (gH Iz yG hm ⋯ ha ⋯ ⋯ e6 nj) λσ H Q q=>gF q
 | list1=>exact fx (gH D6 yG hm ⋯ ha ⋯ ⋯ e6 nj) λσ H Q q=>gF q
 | tuple1=>exact fx (gH Ay yG hm ⋯ ha ⋯ ⋯ e6 nj) λσ H Q q=>gF q
 | nJ=>exact fx (gH (D5 g.calm) yG hm ⋯ ha ⋯ ⋯ e6 nj) λσ H Q q=>gF q
 | all1=>cases hb
 | DR=>cases hb
 | qr t=>cases hb
 | vH=>cases hb
 | min1=>cases hb
 | DS=>cases hb
theorem RG{y:Str}{T:String}{pos:Pos}(hg:Gl X y)(hm:X.mg y=none)(hv:bootBuiltins y=some (.type T)) (hn:y≠ "__name__") (hd:(y==("__debug__" : Str))=false):PE X (.Name y pos) (tC (.ty T)) :=
 vh hg hm hv rfl hn hd
theorem Ng{t:Ty}{c:C}{x y:Str}{e:Expr}{p py pos:Pos}(g:Good kk X cc G) (hx:x = "isinstance") (V4:glob cc x=true) (hy:y=Str.ofString (rK t)) (V5:glob cc y=true) (ht:t≠.none) (hs:a_ e=true) (ha:PE X e (tE X.K (ev G c))):PE X (.Call (.Name x p) [e,.Name y py] [] pos) (tE X.K (ev G (.bi (.qr t) [c]))):=by
 have V6:X.mg x=none:=g.blt x (by subst hx;show _∈dr;decide +kernel);have V7:X.mg y=none:=g.blt y (by subst hy;cases t<;>first | exact absurd rfl ht | (show _∈dr;decide +kernel))
 have V8:PE X (.Name y py) (tC (.ty (rK t))):=by
  subst hy;cases t<;>first | exact absurd rfl ht | exact RG (g.gl V5) V7 ⋯ ⋯ ⋯
 have yG:=g.gl V4;subst hx;refine fx (fj (IB t) yG V6 boot_isinstance (cC ha (cC V8 e7) (cR hs _ X.env)) ⋯ ⋯ (cR hs _ X.env) rfl) λσ H Q q=>?_;obtain⟨ads,M,ρ,s,q⟩:=q;refine⟨ads,M,ρ,s,?_⟩;simp only[Ap,iV,gI]at q
 cases hq:ev G c ρ M with
 | ok w M1 =>
  rw[hq]at q;intro v H1 ai g1 m1 r1;exact⟨v,rfl,ai,M1,[w],m1,⟨v,[],rfl,r1.rw,rfl⟩,cj.shift (o:=kA (.qr t) [w] M1) q g1 s.mem m1⟩
 | err _ _=>rw[hq]at q;exact q
 | af=>rw[hq]at q;exact q
section
variable {prog:Program} {w:World} {A:Around} {E:Value->Shared->Prop} {s:Shared}
theorem pG{sl:Addr}{k:Int}{u:Tok}{n:Nat}{Q:Int×Int×Nat->Shared->Prop}(hs:s.heap.IsSliceOf sl .none .none (.int k u))(hk:k≠0)(h:Q ((Builtin.Slice.sliceAdjust none none k (n:Int)).1,k,Builtin.Slice.slicePlaces (Builtin.Slice.sliceAdjust none none k (n:Int)).1 (Builtin.Slice.sliceAdjust none none k (n:Int)).2 k) s):wpAny (model prog w) A (Builtin.Slice.sliceApplied (.ref sl) (pure (n:Int))) Q E s:=by
 obtain⟨os,zL,L3,Di⟩:=id hs;unfold Builtin.Slice.sliceApplied Builtin.Slice.sliceFields;refine au (au (kY zL Di (x:=.none) rfl (au (kY zL Di (x:=.none) rfl (au (kY zL Di (x:=.int k u) rfl (aO ?_)))))));refine au (slicePart_int ?_);show wpAny _ _ (if (k==0)=true then _ else _) _ _ s;rw[a8 (by simpa using hk)];refine au (slicePart_none (au (slicePart_none (au (aO ?_)))));exact aO h
theorem pH{t sl:Addr}{aC:List Value}{k:Int}{u:Tok}{Q:Value->Shared->Prop}(ht:IsTup s.heap t aC.toArray)(hs:s.heap.IsSliceOf sl .none .none (.int k u))(hk:k≠0)(V9:k≠1)(hsz:(cY aC k).length<=sizeLine) (h:Q (.ref s.heap.objs.size) {s with heap:=s.heap.push {cls:=.type "tuple",data:=.seq (cY aC k).toArray}}):wpAny (model prog w) A (getItem (.ref t) (.ref sl)) Q E s:=by
 have Po:sizeOk (.seq (cY aC k).toArray):=by
  show(cY aC k).toArray.size<=sizeLine;rw[cO];exact hsz
 obtain⟨os,zL,L3,Di⟩:=id hs;have QK:s.TypeIs (.ref sl) "slice" := ⟨os,zL,L3⟩;unfold getItem
 try with_reducible refine kX ?_
 first | refine au (aO ?_) | skip
 refine au (wpAny_sequenceKey ht.typeIs (by decide) ?_)
 refine au (wpAny_callSpecial?_slot (name:=Str.ofString "__getitem__") ht.typeIs wN
  (wpAny_call_entry wN ht.typeIs entry_tuple_getitem ?_ (args_tuple_getitem _ _)))
 show wpAny _ _ (Builtin.Tuple.tupleItemsOf (.ref t) >>= _) _ _ s;refine au (tupleItemsOf_ ht ?_);refine au (y8 QK ?_);rw[aS (by decide)];refine au (pG hs hk ?_)
 have Kx:∀(a b:Bool),¬((a&&(k==(1:Int))&&b)=true):=by
  intro a b z;have:(k==(1:Int))=false:=mL.mpr V9;rw[this]at z;simp at z
 dsimp only;rw[a8 (Kx _ _)];have e:∀(f:Nat->Nat)(l:List Nat),(l.filterMap λj=>aC.toArray[f j]?)=l.filterMap λj=>aC[f j]?:=λf l=>by simp
 rw[e];have hl:(aC.toArray.size:Int)=(aC.length:Int):=by simp
 rw[hl]
 first
  | exact au (m:=Builtin.Tuple.tupleExact _) (mM (aO ⟨_,rfl,aO h⟩) Po)
  | exact au (m:=Builtin.Tuple.tupleExact _) (mM (au (aO (aO ⟨_,rfl,aO h⟩))) Po)
  | exact au (au (m:=Builtin.Tuple.tupleExact _) (mM (aO (aO ⟨_,rfl,aO h⟩)) Po))
  | exact au (au (m:=Builtin.Tuple.tupleExact _) (mM (aO ⟨_,rfl,aO h⟩) Po))
end
theorem kG{K:Frag}{ads:List Addr}{H:Hp}{ds:List D}{xs:List V}(r:aT K ads H ds xs)(f:Nat->Nat):∀js:List Nat,aT K ads H (js.filterMap λj=>ds[f j]?) (js.filterMap λj=>xs[f j]?)
 | []=>by simp;unfold aT;rfl
 | j::js=>by
  cases q:ds[f j]? with
  | none =>
   have:xs[f j]?=none:=by rw[Cs]at q⊢;rw[<- r.len];exact q
   simp only[j_,q,this];exact kG r f js
  | some d =>
   obtain⟨v,e,rv⟩:=r.get q;simp only[j_,q,e];unfold aT;exact⟨_,_,rfl,rv,kG r f js⟩
theorem gL{xs:List V}{us:List Value}(r:aP xs us)(f:Nat->Nat):∀js:List Nat,aP (js.filterMap λj=>xs[f j]?) (js.filterMap λj=>us[f j]?)
 | []=>.nil
 | j::js=>by
  cases q:xs[f j]? with
  | none =>
   have:us[f j]?=none:=by rw[Cs]at q⊢;rw[<- r.length];exact q
   simp only[j_,q,this];exact gL r f js
  | some d =>
   obtain⟨v,e,rv⟩:=r.get q;simp only[j_,q,e];exact .cons rv (gL r f js)
theorem Nh{a:C}{k:Int}{e ke:Expr}{pos p2:Pos}(V_:PE X ke (tC (.int k)))(ha:PE X e (tE X.K (ev G a))):PE X (.Subscript e (.Slice none none (some ke) p2) pos) (tE X.K (ev G (.yE a k))):=by
 intro ae s σ H Q I h;obtain⟨ads,M,ρ,sr,q⟩:=h
 have h1:tE X.K (ev G a) σ H (λx H1=>∃ai M1 w,aR X.K ai H1 M1/\RW X.K ai H1 w x/\cj X.K ai H1 Q (jI w k M1)):=by
  refine dm sr q λw M1 v H1 ai s1 jo q1=>⟨ai,M1,w,s1.mem,jo,q1⟩
 refine Subscript_ (bP (ha ae s σ H _ I h1) ?_);rintro v s1 ⟨x,H1,I1,r1,ai,M1,w,m1,jo,q1⟩;rcases w with⟨_|_|_|_ | ds | _|_⟩|_<;>first | exact q1.elim | skip
 have jo:RD X.K ai H1 (.tup ds) x:=jo;unfold RD at jo;obtain⟨p,xs,rfl,hp,rd⟩:=jo;cases r1;simp only[jI]at q1;split at q1
 ·rename_i hk
  refine wpAny_Slice ?_;rw[evalPart_none];refine aO ?_;refine aO ?_;rw[evalPart_some];refine bP (V_ ae s1 σ H1 (λz H'=>z=.int k/\H1=H') I1 ⟨rfl,rfl⟩) ?_;rintro u s2 ⟨z,H2,I2,rz,rfl,rfl⟩;obtain⟨t,rfl⟩:=rz;have I3:Inv X ae σ H1 {s2 with heap:=s2.heap.push {cls:=.type "slice",data:=.fields #[.none,.none,.int k t]}}:=I2.kept (t':=s2.toks) λb ob q=>cT _ q;obtain⟨aC,rv,ht,hz⟩:=I3.tuple (gU.of (K:=X.K) hp)
  have aY:(cY aC k).length=(cY ds k).length:=by
   have e1:aC.length=xs.length:=rv.length.symm;have e2:xs.length=ds.length:=rd.len.symm;have r1:=(kG rd (λ(j:Nat)=>((Builtin.Slice.sliceAdjust none none k (ds.length:Int)).1+(j:Int)*k).toNat) (List.range (Builtin.Slice.slicePlaces (Builtin.Slice.sliceAdjust none none k (ds.length:Int)).1 (Builtin.Slice.sliceAdjust none none k (ds.length:Int)).2 k))).len;have r2:=(gL rv (λ(j:Nat)=>((Builtin.Slice.sliceAdjust none none k (ds.length:Int)).1+(j:Int)*k).toNat) (List.range (Builtin.Slice.slicePlaces (Builtin.Slice.sliceAdjust none none k (ds.length:Int)).1 (Builtin.Slice.sliceAdjust none none k (ds.length:Int)).2 k))).length;unfold cY;rw[e1,e2,<- r2,<- r1]
  have Wa:aT X.K ai H1 (cY ds k) (cY xs k):=by
   unfold cY;rw[<- rd.len];exact kG rd _ _
  have Ph:aP (cY xs k) (cY aC k):=by
   unfold cY;rw[<- rv.length];exact gL rv _ _
  have xZ:({s2 with heap:=s2.heap.push {cls:=.type "slice",data:=.fields #[.none,.none,.int k t]}}:Shared).heap.IsSliceOf s2.heap.objs.size .none .none (.int k t):=Heap.IsSliceOf.new ..;show wpAny (model X.prog X.w) X.A (subscriptTail e (.Slice none none (some ke) p2) (.ref p) (.ref s2.heap.objs.size)) (EP X ae σ Q) X.xe {s2 with heap:=s2.heap.push {cls:=.type "slice",data:=.fields #[.none,.none,.int k t]}};refine tail_any (ops:=[.ref p,.ref s2.heap.objs.size]) ht.typeIs wN.lookup (pH ht xZ (by rcases hk.1 with z | z<;>rw[z]<;>decide) (by rcases hk.1 with z | z<;>rw[z]<;>decide) (by rw[aY];exact hk.2) ?_) (by with_unfolding_all rfl);refine⟨.ref _,_,I3.laid (t':=s2.toks) (o:=.tup (cY xs k)) (λb ob q=>cT _ q) (aL _) ?_,rfl,q1.tuple m1 Wa (I3.bt.fresh (aL _))⟩;exact⟨by rw[Ph.length,aY];exact hk.2,_,Ph,IsTup.new _ _⟩
 ·exact q1.elim
theorem kz{e:Expr}(h:lN e=true)(n:Str)(env:Env)(wh:Sem Value):attributeBase e n env wh=wh:=by
 cases e<;>first | rfl | skip
 rename_i f args lP pos
 cases f<;>first | rfl | skip
 cases args<;>first | rfl | skip
 cases lP<;>first | rfl | exact absurd (show false=true from h) a6
theorem AM{m:Me}{o:C}{cs:List C}{σ:L2.St}{H:Hp}{Q:VK}(q:tE X.K (ev G (.me m o cs)) σ H Q):Tf X.K "list" (Pl X.K m) (tE X.K (ev G o)) (Cn X.K (bx G cs)) σ H Q:=by
 obtain⟨ads,M,ρ,s,q⟩:=q;have q:cj X.K ads H Q ((ev G o ρ M).bind λx M=>if (ff M x).isSome then (bx G cs ρ M).bind λds M=>tZ m x ds M else .af):=by simp only[Aq]at q;exact q
 refine dm s q λw M1 v H1 ai s1 jo q1=>?_;split at q1
 ·rename_i hs
  obtain⟨es,he⟩:=wR.mp hs;obtain⟨a,xs,rfl,rd,ha⟩:=lI s1.mem jo he;refine⟨.inl ⟨rfl,xs,gj.of ha⟩,ai,M1,ρ,s1,?_⟩
  cases hq:bx G cs ρ M1 with
  | ok ds M2 =>
   rw[hq]at q1;intro vs H2 bU g2 m2 r2;exact⟨bU,M2,w,ds,m2,g2.rw jo,r2,cj.shift (o:=tZ m w ds M2) q1 g2 s1.mem m2⟩
  | err _ _=>rw[hq]at q1;exact q1
  | af=>rw[hq]at q1;exact q1
 ·exact q1.elim
theorem vT{m:Me}{o:C}{σ:L2.St}{H:Hp}{Q:VK}(q:tE X.K (ev G (.me m o [])) σ H Q):L_ X.K "list" (Pl X.K m) (tE X.K (ev G o)) σ H Q:=by
 obtain⟨ads,M,ρ,s,q⟩:=q;have q:cj X.K ads H Q ((ev G o ρ M).bind λx M=>if (ff M x).isSome then (bx G [] ρ M).bind λds M=>tZ m x ds M else .af):=by simp only[Aq]at q;exact q
 refine dm s q λw M1 v H1 ai s1 jo q1=>?_;split at q1
 ·rename_i hs
  obtain⟨es,he⟩:=wR.mp hs;obtain⟨a,xs,rfl,rd,ha⟩:=lI s1.mem jo he;exact⟨.inl ⟨rfl,xs,gj.of ha⟩,ai,M1,w,[],s1.mem,jo,(by unfold aT;rfl),q1⟩
 ·exact q1.elim
theorem IS{cs:List C}{es:List Expr}(h:bY cc cs es=true)(hl:es.length<20)(env:Env)(cF:Pos):((backTo cF (starEach es env)).all (λx=>!x.1)&&(backToKw cF (keywordEach [] env)).all (λx=>x.1.isSome)&&decide (es.length+([]:List Keyword).length+(if ([]:List Keyword).isEmpty then 0 else 1)<30))=true:=by
 have h1:=eL h env cF
 have h2:(backTo cF (starEach es env)).all (λx=>!x.1)=true:=by
  rw[s_];intro x hx;rw[GI]at h1;have:=h1 x hx;simpa using this
 rw[h2];simp[keywordEach,backToKw];omega
theorem RH{m:Me}{o:C}{cs:List C}{e:Expr}{es:List Expr}{n:Str}{ap cp:Pos}(hn:n=AE m)(hm:MQ m=true)(hl:(ap.endLine==cp.line)=true)(h0:lN e=true)(hc:bY cc cs es=true)(aY:es.length<20)(ho:PE X e (tE X.K (ev G o)))(ha:PA X es (Cn X.K (bx G cs))):PE X (.Call (.Attribute e n ap) es [] cp) (tE X.K (ev G (.me m o cs))):=by
 have hb:=kz h0 n X.env (eval e X.env);subst hn
 cases es with
 | nil =>
  cases cs with
  | cons _ _=>cases hc
  | nil =>
   cases m with
   | append=>exact fx (zS CK F.slot_list_append F.type_list_append nK ho hb hl) λσ H Q q=>vT q
   | insert=>exact fx (zS CK F.slot_list_insert F.type_list_insert nL ho hb hl) λσ H Q q=>vT q
   | reverse=>cases hm
   | extend=>cases hm
   | remove=>cases hm
   | pop=>cases hm
   | clear=>cases hm
 | cons e1 es =>
  have e6:a_ e1=true/\bY cc cs.tail es=true:=by
   cases cs with
   | nil=>cases hc
   | cons c cs =>
    have h':(a_ e1&&bX cc c e1&&bY cc cs es)=true:=hc;simp only[aK]at h';exact⟨h'.1.1,h'.2⟩
  have Dr:=IS hc aY X.env cp
  cases m with
  | append=>exact fx (FL CK F.slot_list_append F.type_list_append nK ho ha hb Dr hl (cR e6.1 es X.env) (eL e6.2 X.env cp)) λσ H Q q=>AM q
  | insert=>exact fx (FL CK F.slot_list_insert F.type_list_insert nL ho ha hb Dr hl (cR e6.1 es X.env) (eL e6.2 X.env cp)) λσ H Q q=>AM q
  | reverse=>cases hm
  | extend=>cases hm
  | remove=>cases hm
  | pop=>cases hm
  | clear=>cases hm
theorem Ni{x:Str}{v:Int}{pos:Pos}(g:Good kk X cc G)(hg:glob cc x=true)(hp:cA x=true)(hl:cc.gs.lookup x=some v):PE X (.Name x pos) (tE X.K (ev G (.DU x v))):=by
 obtain⟨t,ht⟩:=g.TJ x v hl;refine fx (oH (v:=.int v) (g.gl hg) ht ⟨t,rfl⟩ (gK hp).1) λσ H Q q=>?_;obtain⟨ads,M,ρ,s,q⟩:=q;exact cj.plain q s.mem (cN _)
end
end
section
variable [EX]
section
variable {kk:Nat} {X:Cx} {cc:CC} {G:bc}
structure TF (H H':Hp):Prop where
 tup:MF H H'
 gh:∀b o u,H b=some (.gh o u)->H' b=some (.gh o u)
theorem TF.jG{K:Frag}{H H':Hp}(t:TF H H'){a:Addr}{xs:List V}(h:rB K H a xs):rB K H' a xs:=by
 rcases h with⟨o,h⟩ | h
 ·exact .inl ⟨o,t.gh _ _ _ h⟩
 ·exact .inr h
mutual
theorem RD.keep{K:Frag}{ads:List Addr}{H H':Hp}(t:TF H H'):∀(d:D)(v:V),RD K ads H d v->RD K ads H' d v
 | .aJ,_,h=>by unfold RD at *;exact h
 | .bl _,_,h=>by unfold RD at *;exact h
 | .int _,_,h=>by unfold RD at *;exact h
 | .str _,_,h=>by unfold RD at *;exact h
 | .aD n,v,h=>by unfold RD at *;exact h
 | .tup ds,v,h=>by unfold RD at *;obtain⟨a,xs,e,h,r⟩:=h;exact⟨a,xs,e,t.tup _ _ h,aT.keep t ds xs r⟩
 | .ls ds,v,h=>by unfold RD at *;obtain⟨a,xs,e,h,r⟩:=h;exact⟨a,xs,e,t.jG h,aT.keep t ds xs r⟩
theorem aT.keep{K:Frag}{ads:List Addr}{H H':Hp}(t:TF H H'):∀(ds:List D)(vs:List V),aT K ads H ds vs->aT K ads H' ds vs
 | [],_,h=>by unfold aT at *;exact h
 | d::ds,vs,h=>by unfold aT at *;obtain⟨x,r,e,h1,h2⟩:=h;exact⟨x,r,e,RD.keep t d x h1,aT.keep t ds r h2⟩
end
theorem bQ.keep{κ:Type}{K:Frag}{ads:List Addr}{H H':Hp}(t:TF H H'):∀(ds:List (κ×D))(vs:List (κ×V)),bQ K ads H ds vs->bQ K ads H' ds vs
 | [],_,h=>by unfold bQ at *;exact h
 | d::ds,vs,h=>by unfold bQ at *;obtain⟨x,r,e,h0,h1,h2⟩:=h;exact⟨x,r,e,h0,RD.keep t d.2 x.2 h1,bQ.keep t ds r h2⟩
theorem aR.keep{K:Frag}{ads:List Addr}{H H':Hp}{M:ag}(m:aR K ads H M)(t:TF H H')(k:∀a∈ads,H' a=H a):aR K ads H' M:=⟨m.nd,m.len,λn o a e1 e2=>by
 have h:=m.obj n o a e1 e2;have ha:=k a (gQ e2)
 cases o with
 | lst ds=>obtain⟨xs,h,r⟩:=h;exact⟨xs,ha.trans h,aT.keep t _ _ r⟩
 | jG ds=>obtain⟨o,xs,h,r⟩:=h;exact⟨o,xs,ha.trans h,aT.keep t _ _ r⟩
 | dK ds=>obtain⟨xs,h,r⟩:=h;exact⟨xs,ha.trans h,bQ.keep t _ _ r⟩
 | dT ds=>obtain⟨xs,h,r⟩:=h;exact⟨xs,ha.trans h,bQ.keep t _ _ r⟩
 | dF ds=>obtain⟨o,xs,h,r⟩:=h;exact⟨o,xs,ha.trans h,bQ.keep t _ _ r⟩⟩
theorem i4:∀(ao acc:List (bA×V)),(acc.map (·.1)++ao.map (·.1)).Nodup->e8 acc ao=acc++ao
 | [],acc,_=>by simp[e8]
 | p::ps,acc,h=>by
  have hn:¬p.1∈acc.map (·.1):=by
   intro hm;rw[List.nodup_append]at h;exact h.2.2 _ hm _ (by simp) rfl
  have ha:(acc.any λkv=>decide (kv.1=p.1))=false:=by
   rw[GI];intro x hx;simp only[om];exact λe=>hn (e▸List.mem_map_of_mem hx)
  have e:e8 acc (p::ps)=e8 (acc++[p]) ps:=by
   show e8 (dW acc p.1 p.2) ps=_;unfold dW;rw[ha];simp
  rw[e,i4 ps (acc++[p]) (by simpa using h)];simp
def jQ(K:Frag)(G:bc):List Str->List C->List (TE×TE)
 | k::ks,c::cs=>(tC (.str k),tE K (ev G c))::jQ K G ks cs
 | _,_=>[]
theorem lS{K:Frag}(ks:List Str)(cs:List C):∀t∈jQ K G ks cs,(∀σ H A B,(∀v H,A v H->B v H)->t.1 σ H A->t.1 σ H B)/\(∀σ H A B,(∀v H,A v H->B v H)->t.2 σ H A->t.2 σ H B):=by
 intro t ht
 have:∀(ks:List Str)(cs:List C),t∈jQ K G ks cs->∃k c,t=(tC (.str k),tE K (ev G c)):=by
  intro ks
  induction ks with
  | nil=>intro cs h;cases cs<;>cases h
  | cons k ks ih =>
   intro cs h
   cases cs with
   | nil=>cases h
   | cons c cs =>
    rcases bS.mp h with z | z
    ·exact⟨k,c,z⟩
    ·exact ih cs z
 obtain⟨k,c,rfl⟩:=this ks cs ht;refine⟨λσ H A B f h=>f _ _ h,λσ H A B f h=>?_⟩;obtain⟨ads,M,ρ,s,q⟩:=h;refine⟨ads,M,ρ,s,?_⟩
 cases hq:ev G c ρ M with
 | ok w M1=>rw[hq]at q;exact λv H' aq g m r=>f _ _ (q v H' aq g m r)
 | err _ _=>rw[hq]at q;exact q
 | af=>rw[hq]at q;exact q
theorem rP{K:Frag}{ρ:En}{σ:L2.St}:∀(ks:List Str)(cs:List C){ads:List Addr}{H:Hp}{M:ag}{R:List V->Hp->Prop},ks.length=cs.length->SR K ads M ρ σ H->rF K ads H R (bx G cs ρ M)->fG (jQ K G ks cs) σ H λps H2=>∃vs,ps=(ks.map V.str).zip vs/\vs.length=ks.length/\R vs H2
 | [],[],ads,H,M,R,_,s,h=>⟨[],rfl,rfl,h [] H ads (av.refl _ _) s.mem (by unfold aT;rfl)⟩
 | [],_::_,_,_,_,_,e,_,_=>by cases e
 | _::_,[],_,_,_,_,e,_,_=>by cases e
 | k::ks,c::cs,ads,H,M,R,e,s,h=>by
  show tE K (ev G c) σ H λy H2=>fG (jQ K G ks cs) σ H2 λps H3=>_;refine⟨ads,M,ρ,s,?_⟩;simp only[fm,eC]at h
  cases hq:ev G c ρ M with
  | ok w M1 =>
   rw[hq]at h;intro v H1 ai g1 m1 r1
   cases ho:own w M1 with
   | ok d M2 =>
    have h:rF K ads H R ((own w M1).bind λd M=>(bx G cs ρ M).bind λds M=>.ok (d::ds) M):=h;rw[ho]at h;obtain⟨bU,g2,m2,rd⟩:=lR s.mem g1 m1 r1 ho;have h:rF K ads H R ((bx G cs ρ M2).bind λds M=>.ok (d::ds) M):=h
    have h2:rF K bU H1 (λvs H'=>R (v::vs) H') (bx G cs ρ M2):=by
     cases AI:bx G cs ρ M2 with
     | ok ds M3 =>
      rw[AI]at h;intro vs H3 dt g3 m3 r3;refine h (v::vs) H3 dt (g2.trans g3) m3 ?_;unfold aT;exact⟨v,vs,rfl,g3.rd _ _ rd,r3⟩
     | err _ _=>rw[AI]at h;exact EX.shift (show EX.post K ads H _ _ from h) g2
     | af=>rw[AI]at h;exact h
    have ih:=rP ks cs (by simpa using e) (s.grow g2 m2) h2
    have mono:∀(lp:List (TE×TE))(H:Hp)(P Q:List (V×V)->Hp->Prop),(∀ps H,P ps H->Q ps H)->(∀t∈lp,(∀σ H A B,(∀v H,A v H->B v H)->t.1 σ H A->t.1 σ H B)/\(∀σ H A B,(∀v H,A v H->B v H)->t.2 σ H A->t.2 σ H B))->fG lp σ H P->fG lp σ H Q:=by
     intro lp
     induction lp with
     | nil=>intro H P Q f _ h;exact f _ _ h
     | cons t lp ih =>
      intro H P Q f hm h;obtain⟨m1,m2⟩:=hm t eg;refine m1 σ H _ _ (λx H1 h1=>m2 σ H1 _ _ (λy H2 h2=>ih H2 _ _ (λps H3 h3=>f _ _ h3) (λt ht=>hm t (dC _ ht)) h2) h1) h
    refine mono _ _ _ _ ?_ ?_ ih
    ·rintro ps H3 ⟨vs,rfl,hl,hR⟩;exact⟨v::vs,rfl,by simp[hl],hR⟩
    ·intro t ht;exact lS ks cs t ht
   | err _ _=>cases w<;>cases ho
   | af=>cases w<;>cases ho
  | err _ _=>rw[hq]at h;exact h
  | af=>rw[hq]at h;exact h
theorem AN{ks:List Str}{cs:List C}:∀{keys:List (Option Expr)}{vs:List Expr}{pos:Pos},iY ks keys=true->ks.length=cs.length->bY cc cs vs=true->(∀c∈cs,∀e,bX cc c e=true->PE X e (tE X.K (ev G c)))->Kw X pos keys vs (jQ X.K G ks cs):=by
 induction ks generalizing cs with
 | nil =>
  intro keys vs pos h1 h2 h3 ih
  cases keys with
  | cons _ _=>cases h1
  | nil =>
   cases cs with
   | cons _ _=>cases h2
   | nil =>
    cases vs with
    | cons _ _=>cases h3
    | nil=>exact Df
 | cons k ks Wb =>
  intro keys vs pos h1 h2 h3 ih
  cases cs with
  | nil=>cases h2
  | cons c cs =>
   cases vs with
   | nil=>cases h3
   | cons e es =>
    have h':(a_ e&&bX cc c e&&bY cc cs es)=true:=h3;simp only[aK]at h'
    cases keys with
    | nil=>cases h1
    | cons ky keys =>
     cases ky with
     | none=>cases h1
     | some ke =>
      obtain⟨h1,hk⟩:=(aK _ _).mp h1;refine bW (P:=λke=>Kw X pos (some ke::keys) (e::es) _) h1 λcn j p h1=>?_;cases cn<;>first | exact absurd (show false=true from h1) a6 | skip
      rename_i st
      obtain rfl:k=st:=eq_of_beq h1;exact zJ oF (ih c eg e h'.1.2) (Wb hk (by simpa using h2) h'.2 λc hc=>ih c (dC _ hc))
theorem i_:∀{ks:List Str}{keys:List (Option Expr)},iY ks keys=true->keys.all (·.isSome)=true/\keys.length=ks.length
 | [],[],_=>⟨rfl,rfl⟩
 | [],_::_,h=>by cases h
 | _::_,[],h=>by cases h
 | k::ks,ky::keys,h=>by
  cases ky with
  | none=>cases h
  | some ke =>
   obtain⟨a,b⟩:=i_ ((aK _ _).mp h).2;exact⟨by simp[a],by simp[b]⟩
theorem rQ:∀{cs:List C}{es:List Expr},bY cc cs es=true->cs.length=es.length
 | [],[],_=>rfl
 | [],_::_,h=>by cases h
 | _::_,[],h=>by cases h
 | c::cs,e::es,h=>by
  have h':(a_ e&&bX cc c e&&bY cc cs es)=true:=h;simp only[aK]at h';simp[rQ h'.2]
theorem vU{α β:Type}:∀(l:List α)(r:List β),l.length=r.length->(l.zip r).map (·.1)=l
 | [],_,_=>by simp
 | a::l,[],h=>by simp at h
 | a::l,b::r,h=>by simp[vU l r (by simpa using h)]
theorem vV{K:Frag}{ads:List Addr}{H:Hp}:∀(ks:List bA){ds:List D}{vs:List V},aT K ads H ds vs->ks.length=ds.length->bQ K ads H (ks.zip ds) (ks.zip vs)
 | [],ds,vs,r,h=>by simp;unfold bQ;rfl
 | k::ks,[],vs,r,h=>by simp at h
 | k::ks,d::ds,vs,r,h=>by
  unfold aT at r;obtain⟨x,r',rfl,h1,h2⟩:=r;show bQ K ads H ((k,d)::ks.zip ds) ((k,x)::ks.zip r');unfold bQ;exact⟨_,_,rfl,rfl,h1,vV ks h2 (by simpa using h)⟩
theorem IT{pos:Pos}:PE X (.Dict [] [] pos) (tE X.K (ev G (.xI [] []))):=by
 refine fx zI λσ H Q q=>?_;obtain⟨ads,M,ρ,s,q⟩:=q;intro p hp
 have q:cj X.K ads H Q (.ok (.d (.aD M.length)) (M++[.dK []])):=by
  simp only[t7,fm,eC]at q;exact q
 exact q.Iq s.mem hp (show bQ X.K ads H [] [] by unfold bQ;rfl)
theorem Nj{ks:List Str}{cs:List C}{keys:List (Option Expr)}{vs:List Expr}{pos:Pos}(h1:iY ks keys=true)(hn:ks.Nodup)(h0:keys≠[])(vp:keys.length<=15)(hc:bY cc cs vs=true)(hl:ks.length=cs.length)(ih:∀c∈cs,∀e,bX cc c e=true->PE X e (tE X.K (ev G c))):PE X (.Dict keys vs pos) (tE X.K (ev G (.xI ks cs))):=by
 obtain⟨k1,k2⟩:=i_ h1;refine fx (Dg (AN h1 hl hc ih) k1 (by rw[k2,hl,rQ hc]) h0 vp) λσ H Q q=>?_;obtain⟨ads,M,ρ,s,q⟩:=q;intro p hp;have TL:=s.mem.fresh hp;have g0:av ads ads H (br H p (.dK [])):=av.dG s.mem hp;have s0:SR X.K ads M ρ σ (br H p (.dK [])):=s.grow g0 (s.mem.dG hp);simp only[t7]at q
 have main:rF X.K ads (br H p (.dK [])) (λvs H2=>H2 p=some (.dK [])/\(vs.length=ks.length->Q (.ref p) (br H2 p (.dK ((ks.map Sum.inr).zip vs))))) (bx G cs ρ M):=by
  cases hq:bx G cs ρ M with
  | ok ds M1 =>
   rw[hq]at q;have q:cj X.K ads H Q (if ks.length=ds.length then .ok (.d (.aD M1.length)) (M1++[.dK ((ks.map Sum.inr).zip ds)]) else .af):=q;split at q
   ·rename_i KI
    intro vs H2 bU g2 m2 r2;have e2:H2 p=some (.dK []):=g2.kept p _ TL aQ;refine⟨e2,λPp=>?_⟩;have TM:p∉bU:=g2.eJ TL aQ;have tk:TF H2 (br H2 p (.dK ((ks.map Sum.inr).zip vs))):=⟨λb xs h=>by rw[aj (λz=>by subst z;rw[e2]at h;cases h)];exact h,λb o u h=>by rw[aj (λz=>by subst z;rw[e2]at h;cases h)];exact h⟩;have m3:aR X.K bU (br H2 p (.dK ((ks.map Sum.inr).zip vs))) M1:=m2.keep tk λa ha=>aj (λz=>by subst z;exact TM ha);have r3:=aT.keep (K:=X.K) (ads:=bU) tk _ _ r2;have m4:=m3.push (o:=.dK ((ks.map Sum.inr).zip ds)) TM ⟨_,aQ,vV (ks.map Sum.inr) r3 (by simpa using KI)⟩;obtain⟨t,et⟩:=g2.pre;refine q (.ref p) _ (bU++[p]) ⟨⟨t++[p],by rw[et,yP]⟩,λb hb nb=>?_,λb x nb h=>?_,λb xs h=>?_,λb o u h=>?_⟩ m4 ?_
    ·rcases fX.mp hb with z | z
     ·have:=g2.new b z nb;by_cases AO:b=p
      ·subst AO;exact hp
      ·rw[aj AO]at this;exact this
     ·have:b=p:=by simpa using z
      subst this;exact hp
    ·have AO:b≠p:=λz=>by subst z;rw[hp]at h;cases h
     rw[aj AO];exact g2.kept b x nb (by rw[aj AO];exact h)
    ·have AO:b≠p:=λz=>by subst z;rw[hp]at h;cases h
     rw[aj AO];exact g2.eP b xs (by rw[aj AO];exact h)
    ·have AO:b≠p:=λz=>by subst z;rw[hp]at h;cases h
     rw[aj AO];exact g2.gh b o u (by rw[aj AO];exact h)
    ·show RD X.K (bU++[p]) (br H2 p (.dK ((ks.map Sum.inr).zip vs))) (.aD M1.length) (.ref p);unfold RD;exact⟨p,rfl,by rw[qw (by rw[m2.len];exact aL _)];simp[m2.len]⟩
   ·exact q.elim
  | err _ _=>rw[hq]at q;exact EX.shift (show EX.post X.K ads H _ _ from q) (av.dG s.mem hp)
  | af=>rw[hq]at q;exact q
 have h:=rP ks cs hl s0 main
 have mono:∀(lp:List (TE×TE))(H:Hp)(P Q:List (V×V)->Hp->Prop),(∀ps H,P ps H->Q ps H)->(∀t∈lp,(∀σ H A B,(∀v H,A v H->B v H)->t.1 σ H A->t.1 σ H B)/\(∀σ H A B,(∀v H,A v H->B v H)->t.2 σ H A->t.2 σ H B))->fG lp σ H P->fG lp σ H Q:=by
  intro lp
  induction lp with
  | nil=>intro H P Q f _ h;exact f _ _ h
  | cons t lp ih =>
   intro H P Q f hm h;obtain⟨m1,m2⟩:=hm t eg;refine m1 σ H _ _ (λx H1 h1=>m2 σ H1 _ _ (λy H2 h2=>ih H2 _ _ (λps H3 h3=>f _ _ h3) (λt ht=>hm t (dC _ ht)) h2) h1) h
 refine mono _ _ _ _ ?_ (lS ks cs) h;rintro ps H2 ⟨vs,rfl,Pp,e2,hQ⟩;refine⟨e2,(ks.map Sum.inr).zip vs,?_,?_,?_⟩
 ·rw[List.zip_map_left,List.zip_map_left,List.map_map];rfl
 ·rw[List.length_zip,aE,Pp];omega
 ·have Wc:((([]:List (bA×V)).map (·.1))++((ks.map (Sum.inr (α:=Int))).zip vs).map (·.1)).Nodup:=by
   rw[vU _ _ (by rw[aE];exact Pp.symm)];simp only[mP,List.nil_append];exact List.Pairwise.map _ (λa b KJ z=>KJ (Sum.inr.inj z)) hn
  rw[i4 _ _ Wc];exact hQ Pp
end
end
section
variable [EX]
def KL(K:Frag)(ads:List Addr)(H:Hp)(it:Ev.It)(J:L2.It):Prop :=
 ∀(i:Nat)(ai:List Addr)(H1:Hp)(M1:ag),av ads ai H H1->aR K ai H1 M1 ->
  (itemAt M1 i it=some none->J.stop i H1) /\
  (∀d,itemAt M1 i it=some (some d)->J.go i H1/\∀x H2,J.LL i H1 x H2->av ai ai H1 H2/\aR K ai H2 M1/\RD K ai H2 d x)
def rR(K:Frag)(ads:List Addr)(H:Hp)(R:L2.It->Hp->Prop):bJ Ev.It->Prop
 | .ok it M=>∀J H' aq,av ads aq H H'->aR K aq H' M->KL K aq H' it J->R J H'
 | .err x M=>EX.post K ads H x M
 | .af=>False
def tI(K:Frag)(o:En->ag->bJ Ev.It):TI:=λσ H R=>∃ads M ρ,SR K ads M ρ σ H/\rR K ads H R (o ρ M)
def dA(G:bc)(k:SK)(cV:List C)(ρ:En)(M:ag):bJ Ev.It:=(cX G cV ρ M).bind λws M=>lE k ws M
section
variable {K:Frag} {ads:List Addr} {H:Hp} {M:ag}
theorem Ej(lo:Int)(n:Nat):KL K ads H (.jU lo n) (O1 lo n):=by
 intro i ai H1 M1 g1 m1;refine⟨λe=>?_,λd e=>?_⟩
 ·by_cases h:i<n
  ·simp[itemAt,h]at e
  ·exact qH.mp h
 ·by_cases h:i<n
  ·simp only[itemAt,aS h,qB]at e;subst e;refine⟨h,λx H2 y=>?_⟩;obtain⟨rfl,rfl⟩:=y;exact⟨av.refl _ _,m1,cN _⟩
  ·simp[itemAt,h]at e
theorem lU{it:Ev.It}{a:Addr}(h:∀(i:Nat)(ai:List Addr)(H1:Hp)(M1:ag),av ads ai H H1->aR K ai H1 M1->∀o,itemAt M1 i it=some o->∃ds xs,o=ds[i]?/\aT K ai H1 ds xs/\gj K H1 a xs):KL K ads H it (Qy K a):=by
 intro i ai H1 M1 g1 m1;refine⟨λe=>?_,λd e=>?_⟩
 ·obtain⟨ds,xs,e2,rd,sq⟩:=h i ai H1 M1 g1 m1 _ e;refine⟨xs,sq,?_⟩;rw[<- rd.len];exact Cs.mp e2.symm
 ·obtain⟨ds,xs,e2,rd,sq⟩:=h i ai H1 M1 g1 m1 _ e;obtain⟨v,ev,rv⟩:=rd.get e2.symm;refine⟨⟨xs,v,sq,ev⟩,λx H2 y=>?_⟩;obtain⟨rfl,y⟩:=y;have:=y xs sq;rw[ev]at this;cases this;exact⟨av.refl _ _,m1,rv⟩
theorem Ek{ds:List D}{xs:List V}{a:Addr}(ha:H a=some (.tup xs))(rd:aT K ads H ds xs):KL K ads H (.items ds) (Qz K a):=by
 intro i ai H1 M1 g1 m1;have sq:gU K H1 a xs:=gU.of (g1.eP _ _ ha);have Wd:=g1.qo _ _ rd;refine⟨λe=>?_,λd e=>?_⟩
 ·refine⟨xs,sq,?_⟩;rw[<- rd.len];exact Cs.mp (cU e)
 ·obtain⟨v,ev,rv⟩:=Wd.get (cU e);refine⟨⟨xs,v,sq,ev⟩,λx H2 y=>?_⟩;obtain⟨rfl,y⟩:=y;have:=y xs sq;rw[ev]at this;cases this;exact⟨av.refl _ _,m1,rv⟩
end
theorem El{K:Frag}{ads:List Addr}{H:Hp}{M:ag}{n:Nat}{v:V}{p:Bool×List D}(m:aR K ads H M)(r:RD K ads H (.aD n) v)(hp:bN M (.d (.aD n))=some p):∃a,v=.ref a/\∃xs,gj K H a xs:=by
 obtain⟨l,ds⟩:=p;obtain⟨a,xs,e,rd,sq⟩:=eK (w:=.d (.aD n)) m r hp;rcases sq with⟨_,sq⟩|⟨hl,_⟩
 ·exact⟨a,e,xs,sq⟩
 ·simp only[bN]at hp;split at hp
  ·cases hp;cases hl
  ·cases hp;cases hl
  ·cases hp
theorem AQ{K:Frag}{ads bU:List Addr}{H H2:Hp}{M2:ag}{n i:Nat}{a:Addr}{o:Option D}(r:RD K ads H (.aD n) (.ref a))(g2:av ads bU H H2)(m2:aR K bU H2 M2)(e:itemAt M2 i (.at n)=some o):∃ds xs,o=ds[i]?/\aT K bU H2 ds xs/\gj K H2 a xs:=by
 unfold RD at r;obtain⟨b,eb,ea⟩:=r;cases eb;have TN:=g2.get ea;simp only[itemAt]at e;split at e
 ·rename_i ds q
  obtain⟨xs,h,rd⟩:=m2.obj n _ a q TN;exact⟨ds,xs,(cU e).symm,rd,gj.of h⟩
 ·rename_i ds q
  obtain⟨o,xs,h,rd⟩:=m2.obj n _ a q TN;exact⟨ds,xs,(cU e).symm,rd,.inl (.inr ⟨o,h⟩)⟩
 ·cases e
section
variable {kk:Nat} {X:Cx} {cc:CC} {G:bc} {tg:Expr} {K:Frag} {ads:List Addr} {H:Hp}
theorem We{aH:Expr}{t u:TI}(h:PI X tg aH t)(f:∀σ H R,u σ H R->t σ H R):PI X tg aH u:=λae s σ H R I q=>h ae s σ H R I (f σ H R q)
theorem Em{c:C}{aH:Expr}(he:PE X aH (tE X.K (ev G c))):PI X tg aH (tI X.K (dA G .seq [c])):=by
 intro ae s σ H R I q;obtain⟨ads,M,ρ,sr,q⟩:=q;simp only[dA,cX]at q
 cases hq:ev G c ρ M with
 | ok w M1 =>
  rw[hq]at q;have q:rR X.K ads H R (lE .seq [w] M1):=q
  cases w with
  | lv ds =>
   have q:rR X.K ads H R (.ok (.items ds) M1):=q;refine oM he ae s σ H R I ⟨ads,M,ρ,sr,?_⟩;rw[hq];intro v H1 ai g1 m1 r1;obtain⟨a,xs,rfl,h0,h1,n,rd⟩:=r1;refine⟨a,rfl,⟨xs,gj.of h1⟩,q _ H1 ai g1 m1 (lU λi bU H2 M2 g2 m2 o e=>?_)⟩;exact⟨ds,xs,(cU e).symm,g2.qo _ _ rd,gj.of (g2.kept a _ n h1)⟩
  | d x =>
   cases x with
   | tup ds =>
    have q:rR X.K ads H R (.ok (.items ds) M1):=q;refine zt he ae s σ H R I ⟨ads,M,ρ,sr,?_⟩;rw[hq];intro v H1 ai g1 m1 r1;have r1:RD X.K ai H1 (.tup ds) v:=r1;unfold RD at r1;obtain⟨a,xs,rfl,h1,rd⟩:=r1;exact⟨a,rfl,⟨xs,gU.of h1⟩,q _ H1 ai g1 m1 (Ek h1 rd)⟩
   | ls ds =>
    have q:rR X.K ads H R (.ok (.items ds) M1):=q;refine oM he ae s σ H R I ⟨ads,M,ρ,sr,?_⟩;rw[hq];intro v H1 ai g1 m1 r1;have r1:RD X.K ai H1 (.ls ds) v:=r1;unfold RD at r1;obtain⟨a,xs,rfl,h1,rd⟩:=r1;refine⟨a,rfl,⟨xs,h1.sq⟩,q _ H1 ai g1 m1 (lU λi bU H2 M2 g2 m2 o e=>?_)⟩;exact⟨ds,xs,(cU e).symm,g2.qo _ _ rd,(g2.jG h1).sq⟩
   | aD n =>
    have q:rR X.K ads H R (if (bN M1 (.d (.aD n))).isSome then .ok (.at n) M1 else .af):=q;split at q
    ·rename_i hs
     obtain⟨p,hp⟩:=wR.mp hs;refine oM he ae s σ H R I ⟨ads,M,ρ,sr,?_⟩;rw[hq];intro v H1 ai g1 m1 r1;obtain⟨a,ea,sq⟩:=El m1 r1 hp;subst ea;exact⟨a,rfl,sq,q _ H1 ai g1 m1 (lU λi bU H2 M2 g2 m2 o e=>AQ r1 g2 m2 e)⟩
    ·exact q.elim
   | aJ=>exact q.elim
   | bl _=>exact q.elim
   | int _=>exact q.elim
   | str _=>exact q.elim
 | err _ _=>rw[hq]at q;exact zt he ae s σ H R I ⟨ads,M,ρ,sr,by rw[hq];exact q⟩
 | af=>rw[hq]at q;exact q.elim
theorem AR{c:C}{a:Expr}{x:Str}{p pos:Pos}(g:Good kk X cc G) (hx:x = "range") (hg:glob cc x=true) (hs:a_ a=true) (he:PE X a (tE X.K (ev G c))):PI X tg (.Call (.Name x p) [a] [] pos) (tI X.K (dA G .fJ [c])):=by
 have yG:=g.gl hg;have hm:X.mg x=none:=g.blt x (by subst hx;show _∈dr;decide +kernel);subst hx;refine We (xr yG hm (cC he e7 (cR hs [] X.env)) (cR hs [] X.env)) λσ H R q=>?_;obtain⟨ads,M,ρ,s,q⟩:=q;simp only[dA,cX]at q;refine⟨ads,M,ρ,s,?_⟩
 cases hq:ev G c ρ M with
 | ok w M1 =>
  rw[hq]at q;have q:rR X.K ads H R (lE .fJ [w] M1):=q;intro v H1 ai g1 m1 r1;rcases w with⟨_|_ | j | _|_|_⟩|_<;>first | exact q.elim | skip
  have q:rR X.K ads H R (if -(2 ^ 62)<=j/\j<2 ^ 62 then .ok (.jU 0 j.toNat) M1 else .af):=q;split at q
  ·rename_i hj
   exact⟨j,by rw[aU r1],hj.1,hj.2,q _ H1 ai g1 m1 (Ej _ _)⟩
  ·exact q.elim
 | err _ _=>rw[hq]at q;exact q
 | af=>rw[hq]at q;exact q.elim
end
end
section
variable [EX]
def tG(K:Frag)(tg:List Nat):TG:=λv σ H Q=>∃ads M ρ d,SR K ads M ρ σ H/\RD K ads H d v/\∃d4,bO tg d ρ=some d4/\∀cI,SR K ads M d4 cI H->Q cI H
theorem SR.set{K:Frag}{ads:List Addr}{M:ag}{ρ:En}{σ:L2.St}{H:Hp}(s:SR K ads M ρ σ H)(i:Nat){d:D}{v:V}(r:RD K ads H d v):SR K ads M (ρ.set i (some d)) (σ.set i (some v)) H :=
 ⟨s.mem,λj d' e=>by
  by_cases h:i=j
  ·subst h
   have hl:i<ρ.length:=by
    have:=(bV.mp e).1;simpa using this
   rw[kS hl]at e;cases e;exact⟨v,by rw[kS (by rw[<- s.ln];exact hl)],r⟩
  ·rw[jr h]at e⊢;exact s.en j d' e,by simp[s.ln]⟩
def gN:List Nat->FE
 | []=>LK
 | i::r=>FF (vk i) (gN r)
section
variable {kk:Nat} {X:Cx} {cc:CC} {G:bc}
theorem Good.nm(g:Good kk X cc G){x:Str}(h:(cc.names.lookup x==some .local||cc.names.lookup x==some .cell)=true):Loc X.env.scope x/\(X.fn x=true\/X.env.scope.names.lookup x=some .local):=by
 rw[w6]at h;rcases h with h | h
 ·have h:=eq_of_beq h;exact⟨.inl (g.kinds x _ h),.inr (g.kinds x _ h)⟩
 ·have h:=eq_of_beq h;exact⟨.inr (g.kinds x _ h),.inl (g.V1 x h)⟩
theorem vW(g:Good kk X cc G):∀(tg:List Nat)(es:List Expr),iZ cc tg es=true->Ku X es (gN tg)/\es.length=tg.length/\(assignEach es X.env).length=tg.length/\(assignEach es X.env).findIdx? (·.1)=none
 | [],[],_=>⟨CZ,rfl,rfl,rfl⟩
 | [],_::_,h=>by cases h
 | _::_,[],h=>by cases h
 | i::tg,e::es,h=>by
  obtain⟨h,h3⟩:=(aK _ _).mp h;obtain⟨ih,l1,l2,l3⟩:=vW g tg es h3;refine b_ (P:=λe=>Ku X (e::es) (gN (i::tg))/\(e::es).length=(i::tg).length/\(assignEach (e::es) X.env).length=(i::tg).length/\(assignEach (e::es) X.env).findIdx? (·.1)=none) h λx p h=>?_;obtain⟨h1,h2⟩:=(aK _ _).mp h;obtain⟨n1,n2⟩:=g.nm h2;refine⟨zo (oK (by rw[g.N];exact g.nd) (by rw[g.N];exact eq_of_beq h1) n1 n2) ih,by simp[l1],?_,?_⟩
  ·show(assignEach es X.env).length+1=_;rw[l2];rfl
  ·show List.findIdx? _ ((false,_)::assignEach es X.env)=none;rw[List.findIdx?_cons];simp only[CG,ou];rw[l3];rfl
theorem F1{K:Frag}{ads:List Addr}{M:ag}{H:Hp}{Q:L2.St->Hp->Prop}{d4:En}(hQ:∀cI,SR K ads M d4 cI H->Q cI H):∀(tg:List Nat)(ds:List D)(xs:List V)(ρ:En)(σ:L2.St),SR K ads M ρ σ H->aT K ads H ds xs->dk tg ds ρ=some d4->gN tg xs σ H Q
 | [],[],xs,ρ,σ,s,r,e=>by
  unfold aT at r;subst r;cases e;exact⟨rfl,hQ σ s⟩
 | [],_::_,_,_,_,_,_,e=>by cases e
 | _::_,[],_,_,_,_,_,e=>by cases e
 | i::tg,d::ds,xs,ρ,σ,s,r,e=>by
  unfold aT at r;obtain⟨x,r',rfl,h1,h2⟩:=r;exact⟨x,r',rfl,F1 hQ tg ds r' _ _ (s.set i h1) h2 e⟩
theorem lV:∀(tg:List Nat)(ds:List D)(ρ d4:En),dk tg ds ρ=some d4->ds.length=tg.length
 | [],[],_,_,_=>rfl
 | [],_::_,_,_,e=>by cases e
 | _::_,[],_,_,e=>by cases e
 | i::tg,d::ds,ρ,d4,e=>by simp[lV tg ds _ d4 e]
theorem ja(g:Good kk X cc G){tg:List Nat}{t:Expr}(h:hZ cc tg t=true):PG X t (tG X.K tg):=by
 rcases tg with _|⟨i,_|⟨j,tl⟩⟩
 ·exact absurd h a6
 ·refine b_ (P:=λt=>PG X t _) ((aK _ _).mp h).1 λx p h=>?_;obtain⟨h1,h2⟩:=(aK _ _).mp h;obtain⟨n1,n2⟩:=g.nm h2;intro ae s σ H v u Q I r q;refine oK (by rw[g.N];exact g.nd) (by rw[g.N];exact eq_of_beq h1) n1 n2 ae s σ H v u Q I r ?_;obtain⟨ads,M,ρ,d,sr,rd,d4,e,hQ⟩:=q;cases e;exact hQ _ (sr.set i rd)
 ·refine iw (P:=λt=>PG X t _) h λes kq p h=>?_;obtain⟨a,l1,l2,l3⟩:=vW g (i::j::tl) es ((aK _ _).mp h).1;intro ae s σ H v u Q I r q;refine Hb (pos:=p) (k:=kq) g.calm a l2 l3 ae s σ H v u Q I r ?_;obtain⟨ads,M,ρ,d,sr,rd,d4,e,hQ⟩:=q
  have e':∃ds,d=.tup ds/\dk (i::j::tl) ds ρ=some d4:=by
   cases d<;>first | cases e | exact⟨_,rfl,e⟩
  obtain⟨ds,rfl,e2⟩:=e';unfold RD at rd;obtain⟨b,xs,rfl,hb,rd⟩:=rd;exact⟨b,xs,rfl,gU.of hb,by rw[<- rd.len,lV _ ds ρ d4 e2],F1 hQ _ ds xs ρ σ sr rd e2⟩
end
theorem iy {env : Env} : ∀ (names : List (Str × NameKind)) (acc : List (Str × Addr)), (∀ y ∈ names, y.2 = .free -> ∃ c, env.cells.lookup y.1 = some c) -> (∀ x c, acc.lookup x = some c -> env.cells.lookup x = some c) ->
    ∃cl,(forIn names acc λ(x:Str×NameKind) (r:List (Str×Addr))=>(match x with | (name,kind)=>if (kind==NameKind.free)=true then do let a <- cellOf env name;pure (ForInStep.yield ((name,a)::r)) else pure (ForInStep.yield r):Sem (ForInStep (List (Str×Addr)))))=pure cl /\
      (∀x c,cl.lookup x=some c->env.cells.lookup x=some c)/\(∀x,(acc.lookup x).isSome=true->(cl.lookup x).isSome=true)/\∀y∈names,y.2=.free->(cl.lookup y.1).isSome=true
  | [],acc,_,h=>⟨acc,rfl,h,λ_ q=>q,λy hy=>by cases hy⟩
  | (n,k)::r,acc,hn,h=>by
    by_cases hk:k=.free
    · subst hk;obtain⟨c,hc⟩:=hn (n,.free) eg rfl
      have h2:∀x c',((n,c)::acc).lookup x=some c'->env.cells.lookup x=some c':=λx c' e=>by
        rw[eF]at e;by_cases hx:x=n
        · subst hx;simp at e;rw[<- e];exact hc
        · have:(x==n)=false:=mL.mpr hx;rw[this]at e;exact h x c' e
      obtain⟨cl,e1,e2,e3,e4⟩:=iy r ((n,c)::acc) (λy hy=>hn y (dC _ hy)) h2;refine⟨cl,?_,e2,λx q=>e3 x ?_,λy hy hf=>?_⟩
      · rw[List.forIn_cons];have:cellOf env n=pure c:=by unfold cellOf;rw[hc]
        simp only[qD,dD,this];exact e1
      · rw[eF];by_cases hx:(x==n)=true
        · simp[hx]
        · simp only[hx];exact q
      · rcases bS.mp hy with z | z
        · subst z;exact e3 _ (by simp[eF])
        · exact e4 y z hf
    · obtain⟨cl,e1,e2,e3,e4⟩:=iy r acc (λy hy=>hn y (dC _ hy)) h;refine⟨cl,?_,e2,e3,λy hy hf=>?_⟩
      · rw[List.forIn_cons];have:(k==NameKind.free)=false:=by simpa using hk
        simp only[this,CG,ou];exact e1
      · rcases bS.mp hy with z | z
        · subst z;exact absurd hf hk
        · exact e4 y z hf
theorem vX{X:Cx}{sc:Scope}(h:∀y∈sc.names,y.2=.free->∃c,X.env.cells.lookup y.1=some c):∃cl,HK X sc cl:=by
 obtain⟨cl,e1,e2,e3,e4⟩:=iy sc.names [] h (λx c e=>by cases e);refine⟨cl,?_,e2,λx hx=>wR.mp (e4 (x,.free) (kU hx) rfl)⟩;unfold closureFor;exact oq (λm=>m >>= λcs=>pure cs) e1
section
variable {kk:Nat} {X:Cx} {cc:CC} {G:bc}
theorem kH{sc:Scope}(h:rL cc sc=true):sc.kind=.function/\(∀y∈sc.names,y.2=.cell->sc.names.lookup y.1=some .cell)/\(∀y∈sc.names,y.2=.local->sc.names.lookup y.1=some .local)/\(d8 sc).Nodup/\∀y∈sc.names,y.2=.free->sc.names.lookup y.1=some .free/\(cc.names.lookup y.1=some .cell\/cc.names.lookup y.1=some .free):=by
 unfold rL at h;simp only[aK,gR,s_,bne_iff_ne,ne_eq,om,w6]at h;obtain⟨⟨⟨⟨h1,h2⟩,h3⟩,h4⟩,h5⟩:=h;refine⟨h1,λy hy hk=>?_,λy hy hk=>?_,h4,λy hy hk=>?_⟩
 ·rcases h2 y hy with z | z
  ·exact absurd hk z
  ·exact z
 ·rcases h3 y hy with z | z
  ·exact absurd hk z
  ·exact z
 ·rcases h5 y hy with z | z
  ·exact absurd hk z
  ·exact z
theorem Good.block(g:Good kk X cc G){sc:Scope}(h:rL cc sc=true){cl:List (Str×Addr)}(C:Addr)(s:Shared)(H:Hp)(fp:List Addr):@Good never kk (X.block sc cl C (d8 sc) s H fp []) (nM cc sc) G:=by
 obtain⟨h1,h2,h3,h4,h5⟩:=kH h;refine @Good.mk never kk (X.block sc cl C (d8 sc) s H fp []) (nM cc sc) G g.calm g.room rfl h4 (λx k e=>?_) (λx e=>?_) g.blt g.TJ g.fns ⟨E0,(by rintro _ _ _ _ _ _ _ ⟨_,_,_,_,_,_,_,_,_,_,_,_,_,h⟩;exact h.elim),λh=>h.elim⟩
 ·have e:sc.names.lookup x=some k:=e;have r:=dh (env:=X.env) e;have kd:(X.block sc cl C (d8 sc) s H fp []).env.kindOf x=some (if (k==NameKind.free&&X.env.scope.kind == .function&&X.env.kindOf x==some .cell) then .cell else k):=r
  cases k with
  | «local»=>exact kd
  | cell=>exact kd
  | free =>
   show _\/_;rw[kd];split
   ·exact .inl rfl
   ·exact .inr rfl
  | globalExplicit=>exact True.intro
  | globalImplicit=>exact kd
 ·have e:sc.names.lookup x=some .cell:=e;show(sc.names.lookup x==some .cell)=true;rw[e];rfl
theorem AS(g:Good kk X cc G){sc:Scope}(h:rL cc sc=true):z4 X sc (d8 sc) (lO cc sc):=by
 obtain⟨h1,h2,h3,h4,h5⟩:=kH h;refine⟨by simp[lO],λi j x e1 e2=>?_⟩;unfold lO at e1;rw[dz,e2]at e1;simp only[tf,qB]at e1;split at e1
 ·rename_i hf
  have hf:sc.names.lookup x=some .free:=by simpa using hf
  obtain⟨_,ho⟩:=h5 (x,.free) (kU hf) rfl;refine⟨?_,hf,?_⟩
  ·rw[g.N];obtain⟨hj,hx,_⟩:=K0.mp e1;rw[cE hj];have:cc.N[j]=x:=by simpa using hx
   rw[this]
  ·rcases ho with ho | ho
   ·exact .inl (g.kinds x _ ho)
   ·exact g.kinds x _ ho
 ·cases e1
theorem AU{K:Frag}{ads:List Addr}{M:ag}{ρ:En}{σ:L2.St}{H:Hp}(s:SR K ads M ρ σ H)(cD:List (Option Nat)):SR K ads M (ef cD ρ) (iR cD σ) H:=by
 refine⟨s.mem,λi d e=>?_,by simp[ef,iR]⟩;unfold ef at e;unfold iR;rw[dz]at e⊢
 cases q:cD[i]? with
 | none=>rw[q]at e;cases e
 | some o =>
  rw[q]at e
  cases o with
  | none=>cases e
  | some j =>
   have e:(ρ[j]?).join=some d:=cU e
   have e2:ρ[j]?=some (some d):=by
    cases r:ρ[j]? with
    | none=>rw[r]at e;cases e
    | some z=>rw[r]at e;cases z with
     | none=>cases e
     | some y=>cases e;rfl
   obtain⟨v,ev,rv⟩:=s.en j d e2;exact⟨v,by simp[ev],rv⟩
theorem av.vY{ads aq:List Addr}{H H':Hp}{D:Addr}{o:HO}(g:av ads aq H H')(h:H D=none):av ads aq H (br H' D o) :=
 ⟨g.pre,g.new,λb x n e=>by rw[aj (λz=>by subst z;rw[h]at e;cases e)];exact g.kept b x n e,λb x e=>by rw[aj (λz=>by subst z;rw[h]at e;cases e)];exact g.eP b x e,
  λb x u e=>by rw[aj (λz=>by subst z;rw[h]at e;cases e)];exact g.gh b x u e⟩
theorem rS{K:Frag}{G:bc}{it:Ev.It}{J:L2.It}{tg:List Nat}{cond:Option dZ}{elt:C}{cD:List (Option Nat)}{ads:List Addr}{M:ag}{ρ:En}{σ:L2.St}{H:Hp}{Q:VK}{f:Nat}(s:SR K ads M ρ σ H)(hJ:KL K ads H it J)(q:cj K ads H Q (ba (λτ M=>bB G cond τ M) (λτ M=>(ev G elt τ M).bind own) it tg f 0 (ef cD ρ) M [])):tR cD (tG K tg) (cond.map λt=>@mK never K (dy G t)) (@tE never K (ev G elt)) σ J H Q:=by
  intro D hD;have Wf:=s.mem.fresh hD
  refine⟨λi m τ H' ys=>∃aq M' lW acc,SR K aq M' lW τ H'/\av ads aq H H'/\D∉aq/\H' D=some (.lst ys)/\aT K aq H' acc ys/\cj K ads H Q (ba (λτ M=>bB G cond τ M) (λτ M=>(ev G elt τ M).bind own) it tg m i lW M' acc),
    ⟨f,ads,M,ef cD ρ,[],?_,(av.refl _ _).vY hD,Wf,aQ,(by unfold aT;rfl),q⟩,?_⟩
  · have g0:av ads ads H (br H D (.lst [])):=av.dG s.mem hD;exact(AU s cD).grow g0 (s.mem.dG hD)
  rintro i m τ H' ys ⟨aq,M',lW,acc,s',g',dn,hl,ra,q'⟩;refine⟨hl,?_⟩;obtain⟨r1,r2⟩:=hJ i aq H' M' g' s'.mem
  have stop:itemAt M' i it=some none->cj K ads H Q (.ok (.lv acc) M')->(J.stop i H'/\Q (.ref D) H'):=λhi q' =>
    ⟨r1 hi,q' (.ref D) H' aq g' s'.mem ⟨D,ys,rfl,hD,hl,dn,ra⟩⟩
  cases m with
  | zero =>
    unfold ba at q';split at q'
    · rename_i hi
      exact .inl (stop hi q')
    · exact q'.elim
  | succ m =>
    unfold ba at q';split at q'
    · rename_i hi
      exact .inl (stop hi q')
    · rename_i d hi
      obtain⟨go,yl⟩:=r2 d hi
      cases hb:bO tg d lW with
      | none=>rw[hb]at q';exact q'.elim
      | some sR =>
        rw[hb]at q';dsimp only at q';split at q'
        · rename_i hz
          refine .inr ⟨go,by rw[<- ra.len];exact hz,λx H2 y=>?_⟩;obtain⟨g2,m2,rd⟩:=yl x H2 y;have Dt:H2 D=some (.lst ys):=g2.kept D _ dn hl;refine⟨aq,M',lW,d,s'.grow g2 m2,rd,sR,hb,λCj s2=>?_⟩
          have ez : ∀ b M3 H3 dt, av aq dt H2 H3 -> aR K dt H3 M3 -> cj K ads H Q (if b = true then ((ev G elt sR M3).bind own).b0 fun x M => ba (fun τ M => bB G cond τ M) (fun τ M => (ev G elt τ M).bind own) it tg m (i + 1) sR M (acc ++ [x]) else ba (fun τ M => bB G cond τ M) (fun τ M => (ev G elt τ M).bind own) it tg m (i + 1) sR M3 acc) ->
              (if b=true then @tE never K (ev G elt) Cj H3 λv H4=>H4 D=some (.lst ys)/\∃m',m'<m+1/\∃aq M' lW acc,SR K aq M' lW Cj (br H4 D (.lst (ys++[v])))/\av ads aq H (br H4 D (.lst (ys++[v])))/\D∉aq/\(br H4 D (.lst (ys++[v]))) D=some (.lst (ys++[v]))/\aT K aq (br H4 D (.lst (ys++[v]))) acc (ys++[v])/\cj K ads H Q (ba (λτ M=>bB G cond τ M) (λτ M=>(ev G elt τ M).bind own) it tg m' (i+1) lW M' acc)
               else ∃m',m'<m+1/\∃aq M' lW acc,SR K aq M' lW Cj H3/\av ads aq H H3/\D∉aq/\H3 D=some (.lst ys)/\aT K aq H3 acc ys/\cj K ads H Q (ba (λτ M=>bB G cond τ M) (λτ M=>(ev G elt τ M).bind own) it tg m' (i+1) lW M' acc)):=by
            intro b M3 H3 dt g3 m3 q3;have RI:D∉dt:=g3.eJ dn Dt;have Pq:H3 D=some (.lst ys):=g3.kept D _ dn Dt;have s3:=s2.grow g3 m3;have gg:=(g'.trans g2).trans g3;have TQ:=(g2.trans g3).qo _ _ ra
            cases b with
            | false =>
              rw[a8 (by simp)]at q3⊢;exact⟨m,CM _,dt,M3,sR,acc,s3,gg,RI,Pq,TQ,q3⟩
            | true =>
              rw[aS rfl]at q3⊢;refine⟨dt,M3,sR,s3,?_⟩
              cases he:ev G elt sR M3 with
              | ok w M4 =>
                rw[he]at q3;intro v H4 Ef g4 m4 r4;have q3:cj K ads H Q ((own w M4).b0 λx M=>ba (λτ M=>bB G cond τ M) (λτ M=>(ev G elt τ M).bind own) it tg m (i+1) sR M (acc++[x])):=q3;have pI:H4 D=some (.lst ys):=g4.kept D _ RI Pq;refine⟨pI,m,CM _,?_⟩
                cases ho:own w M4 with
                | ok dd M5 =>
                  rw[ho]at q3;obtain⟨Eo,g5,m5,Wg⟩:=lR s3.mem g4 m4 r4 ho;have TR:D∉Eo:=g5.eJ RI Pq;have tk:TF H4 (br H4 D (.lst (ys++[v]))):=⟨λb xs e=>by rw[aj (λz=>by subst z;rw[pI]at e;cases e)];exact e,λb o u e=>by rw[aj (λz=>by subst z;rw[pI]at e;cases e)];exact e⟩;have m6:aR K Eo (br H4 D (.lst (ys++[v]))) M5:=m5.keep tk λa ha=>aj (λz=>by subst z;exact TR ha)
                  have Wh:ME K Eo (br H4 D (.lst (ys++[v]))) sR Cj:=λj d e=>by
                    obtain⟨u,e1,r⟩:=g5.Tw s3.en j d e;exact⟨u,e1,RD.keep tk _ _ r⟩
                  exact⟨Eo,M5,sR,acc++[dd],⟨m6,Wh,s3.ln⟩,(gg.trans g5).vY hD,TR,aQ,aT.keep tk _ _ ((g5.qo _ _ TQ).app (.one Wg)),q3⟩
                | err _ _=>cases w<;>cases ho
                | af=>cases w<;>cases ho
              | err _ _=>rw[he]at q3;exact q3
              | af=>rw[he]at q3;exact q3
          cases cond with
          | none =>
            exact ez true M' H2 aq (av.refl _ _) m2 q'
          | some t =>
            show @mK never K (dy G t) Cj H2 _;refine⟨aq,M',sR,s2,?_⟩;have q':cj K ads H Q ((dy G t sR M').b0 λb M=>if b=true then ((ev G elt sR M).bind own).b0 λx M=>ba (λτ M=>bB G (some t) τ M) (λτ M=>(ev G elt τ M).bind own) it tg m (i+1) sR M (acc++[x]) else ba (λτ M=>bB G (some t) τ M) (λτ M=>(ev G elt τ M).bind own) it tg m (i+1) sR M acc):=q'
            cases ht:dy G t sR M' with
            | ok b M3 =>
              rw[ht]at q';intro H3 dt g3 m3;exact ez b M3 H3 dt g3 m3 q'
            | err _ _=>rw[ht]at q';exact q'
            | af=>rw[ht]at q';exact q'
        · exact q'.elim
    · exact q'.elim
end
end
section
variable [EX]
variable {kk:Nat} {G:bc}
theorem pJ{e:Expr}(h:gE e=true)(env:Env):∀x,foldedSetIterable e env x=pure x:=by
 intro x;cases e<;>first | rfl | exact absurd (show false=true from h) a6
theorem IU{X:Cx}{cc:CC}{k:SK}{cV:List C}{tg:List Nat}{cond:Option dZ}{elt:C}{cD:List (Option Nat)}{el t aH:Expr}{ifs:List Expr}{sc:Scope}{pos:Pos}(g:Good kk X cc G)(AV:rL cc sc=true)(zX:cD=lO cc sc)(ko:gE aH=true)(AW:PI X t aH (tI X.K (dA G k cV)))(RJ:hZ (nM cc sc) tg t=true)(jb:Ed (nM cc sc) cond ifs=true)(Pn:∀t,cond=some t->∀X':Cx,X'.K=X.K->@Good never kk X' (nM cc sc) G->∀e,jP (nM cc sc) t e=true->PT X' e (@mK never X'.K (dy G t)))(Wi:∀X':Cx,X'.K=X.K->@Good never kk X' (nM cc sc) G->PE X' el (@tE never X'.K (ev G elt))):∃(wi:TI) (cl:(X:Cx)->Prop),True/\PE X (.ListComp el [⟨t,aH,ifs,0⟩] sc pos) (tE X.K (ev G (.comp k cV tg cond elt cD))):=by
 refine⟨λ_ _ _=>True,λ_=>True,True.intro,?_⟩;intro ae s σ H Q I q;obtain⟨h1,h2,h3,h4,h5⟩:=kH AV
 obtain⟨cl,Pr⟩:=vX (X:=X) (sc:=sc) λy hy hf=>by
  obtain⟨_,ho⟩:=h5 y hy hf;refine I.ok.has y.1 ?_;rcases ho with ho | ho
  ·exact .inl (g.kinds _ _ ho)
  ·exact g.kinds _ _ ho
 have ck:jE X sc (d8 sc) cD cl t el ifs (tG X.K tg) (cond.map λt=>@mK never X.K (dy G t)) (@tE never X.K (ev G elt)):=by
  refine⟨h1,h2,h3,Pr,zX▸AS g AV,λC s H fp=>(by have gb:=g.block (cl:=cl) AV C s H fp;letI:=never;exact ja gb RJ),?_,λC s H fp=>Wi _ rfl (g.block AV C s H fp)⟩
  cases cond with
  | none =>
   cases ifs with
   | nil=>rfl
   | cons _ _=>cases jb
  | some tt =>
   cases ifs with
   | nil=>cases jb
   | cons e es =>
    cases es with
    | cons _ _=>cases jb
    | nil=>exact⟨e,rfl,λC s H fp=>Pn tt rfl (X.block sc cl C (d8 sc) s H fp []) rfl (g.block AV C s H fp) e jb⟩
 refine DG g.calm AW ck (pJ ko X.env) ae s σ H Q I ?_;obtain⟨ads,M,ρ,sr,q⟩:=q;refine⟨ads,M,ρ,sr,?_⟩
 have q:cj X.K ads H Q ((dA G k cV ρ M).bind λit M=>ba (λτ M=>bB G cond τ M) (λτ M=>(ev G elt τ M).bind own) it tg (dj M it) 0 (ef cD ρ) M []):=by
  simp only[pv]at q;unfold dA
  cases hw:cX G cV ρ M with
  | ok ws M1=>rw[hw]at q;exact q
  | err _ _=>rw[hw]at q;exact q
  | af=>rw[hw]at q;exact q
 cases hs:dA G k cV ρ M with
 | ok it M1 =>
  rw[hs]at q;intro J H1 ai g1 m1 rj;exact rS (sr.grow g1 m1) rj (cj.shift (o:=ba (λτ M=>bB G cond τ M) (λτ M=>(ev G elt τ M).bind own) it tg (dj M1 it) 0 (ef cD ρ) M1 []) q g1 sr.mem m1)
 | err _ _=>rw[hs]at q;exact q
 | af=>rw[hs]at q;exact q
end
theorem fP[EX]{X:Cx}{cc:CC}{G:bc}{c:C}{e:Expr}(h:(gJ e&&bX cc c e)=true)(k:bX cc c e=true->PE X e (tE X.K (ev G c))):PT X e (mK X.K (dy G (.val c))):=Ei ((aK _ _).mp h).1 (k ((aK _ _).mp h).2)
mutual
theorem bz{kk:Nat}{G:bc}:∀(c:C)(ex:EX)(cc:CC)(X:Cx)(e:Expr),@Good ex kk X cc G->bX cc c e=true->PE X e (@tE ex X.K (ev G c))
 | .fK i,ex,cc,X,e,g,h=>MR g h
 | .bf d,ex,cc,X,e,g,h=>MS h
 | .bin op a b,ex,cc,X,e,g,h=>MT (λe h=>bz a ex cc X e g h) (λe h=>bz b ex cc X e g h) h
 | .cmp op a b,ex,cc,X,e,g,h=>(FX g (λe h=>bz a ex cc X e g h) (λe h=>bz b ex cc X e g h) h).1
 | .chain o1 o2 a b c,ex,cc,X,e,g,h=>(vS g (λe h=>bz a ex cc X e g h) (λe h=>bz b ex cc X e g h) (λe h=>bz c ex cc X e g h) h).1
 | .di cs,ex,cc,X,e,g,h=>by
  refine eX (P:=λe=>PE X e _) h λop es pos h=>?_;simp only[aK,ic,yK]at h
  cases op with
  | Or=>exact absurd h.1.1 a6
  | And=>exact fx (FY (op:=.And) cs es pos (pK cs ex cc X g) h.1.2 h.2) λσ H Q q=>q
 | .f_ cs,ex,cc,X,e,g,h=>by
  refine eX (P:=λe=>PE X e _) h λop es pos h=>?_;simp only[aK,ic,yK]at h
  cases op with
  | And=>exact absurd h.1.1.symm a6
  | Or=>exact fx (MY cs es pos (pK cs ex cc X g) h.1.2 h.2) λσ H Q q=>q
 | .neg a,ex,cc,X,e,g,h=>MU (λe h=>bz a ex cc X e g h) h
 | .ite t a b,ex,cc,X,e,g,h=>ua (P:=λe=>PE X e _) h λc x y pos h=>by
  simp only[aK]at h;exact Na (x8 t ex cc X c g h.1.1) (bz a ex cc X x g h.1.2) (bz b ex cc X y g h.2)
 | .tup cs,ex,cc,X,e,g,h=>MV (λes h=>nN cs ex cc X es g h) h
 | .lst cs,ex,cc,X,e,g,h=>MW (λes h=>nN cs ex cc X es g h) h
 | .sub a b,ex,cc,X,e,g,h=>dq (P:=λe=>PE X e _) h λe i pos h=>by
  simp only[aK]at h;exact Nb g h.1.1 (bz a ex cc X e g h.1.2) (bz b ex cc X i g h.2)
 | .sQ a lo hi,ex,cc,X,e,g,h=>dq (P:=λe=>PE X e _) h λe i pos h=>lM (P:=λi=>PE X (.Subscript e i pos) _) h λl u st p h=>by
  simp only[aK]at h
  cases st with
  | some _=>exact absurd h.1.1.1 a6
  | none=>exact Nc (bz a ex cc X e g h.1.1.2) (Nk lo ex cc X l g h.1.2) (Nk hi ex cc X u g h.2)
 | .yE a k,ex,cc,X,e,g,h=>dq (P:=λe=>PE X e _) h λe i pos h=>lM (P:=λi=>PE X (.Subscript e i pos) _) h λl u st p h=>by
  rcases l with _|_<;>first | exact absurd h a6 | skip
  rcases u with _|_<;>first | exact absurd h a6 | skip
  rcases st with _ | ke<;>first | exact absurd h a6 | skip
  replace h:=(aK _ _).mp h
  refine Nh ?_ (bz a ex cc X e g h.2);rcases(w6 _ _).mp h.1 with h | h
  ·refine bW (P:=λke=>PE X ke _) h λc j p2 h=>?_;cases c<;>first | exact absurd h a6 | skip
   obtain rfl:=eq_of_beq h;exact oE
  ·refine eA (P:=λke=>PE X ke _) h λop x p2 h=>?_
   replace h:=(aK _ _).mp h
   cases op<;>first | exact absurd h.1 a6 | skip
   refine bW (P:=λx=>PE X (.UnaryOp .USub x p2) _) h.2 λc j p3 h=>?_;cases c<;>first | exact absurd h a6 | skip
   rename_i jj
   obtain rfl:k=-jj:=by have:=eq_of_beq h;omega
   exact fx (FI zx oE) λσ H Q q=>⟨jj,rfl,q⟩
 | .call f cs,ex,cc,X,e,g,h=>fw (P:=λe=>PE X e _) h λfe args lP pos h=>b_ (P:=λfe=>PE X (.Call fe args lP pos) _) h λx p h=>by
  rcases args with _|⟨e,es⟩<;>first | exact absurd h a6 | skip
  cases lP<;>first | exact absurd h a6 | skip
  simp only[aK,gR]at h;exact IP g h.1.1.1 h.1.1.2 h.1.2 h.2 (nN cs ex cc X (e::es) g h.2)
 | .bi b cs,ex,cc,X,e,g,h=>fw (P:=λe=>PE X e _) h λfe args lP pos h0=>b_ (P:=λfe=>PE X (.Call fe args lP pos) _) h0 λx p h=>by
  clear h0
  replace h:=(aK _ _).mp h
  have h1:=h.1
  replace h:=h.2
  simp only[aK,yR]at h1;obtain⟨⟨rfl,hx⟩,hg⟩:=h1
  cases hb:AG b with
  | none =>
   rw[hb]at h;rcases args with _|⟨e,es⟩<;>first | exact absurd h a6 | skip
   replace h:=(aK _ _).mp h
   have e6:a_ e=true/\bY cc cs.tail es=true:=by
    cases cs with
    | nil=>exact absurd h.2 a6
    | cons c cs =>
     have h':(a_ e&&bX cc c e&&bY cc cs es)=true:=h.2;simp only[aK]at h';exact⟨h'.1.1,h'.2⟩
   exact RF g h.1 (eq_of_beq hx) hg e6.1 e6.2 (F2 cs ex cc X (e::es) g h.2)
  | some t =>
   rw[hb]at h;obtain rfl:=uh hb;rcases args with _|⟨e,_|⟨f,_|⟨f2,fs⟩⟩⟩<;>first | exact absurd h a6 | skip
   replace h:=(aK _ _).mp h
   refine b_ (P:=λf=>PE X (.Call (.Name x p) [e,f] [] pos) _) h.1 λy py hy=>?_;simp only[aK,om]at hy;rcases cs with _|⟨c,_|⟨c2,cs⟩⟩
   ·exact absurd h.2 a6
   ·have h7:(a_ e&&bX cc c e&&true)=true:=h.2;simp only[aK]at h7;exact Ng g (eq_of_beq hx) hg (eq_of_beq hy.1.1) hy.1.2 hy.2 h7.1.1 (bz c ex cc X e g h7.1.2)
   ·have h7:(a_ e&&bX cc c e&&bY cc (c2::cs) [])=true:=h.2;simp only[aK]at h7;exact absurd h7.2 a6
 | .me m o cs,ex,cc,X,e,g,h=>fw (P:=λe=>PE X e _) h λfe args lP pos h=>lL (P:=λfe=>PE X (.Call fe args lP pos) _) h λe n ap h=>by
  simp only[aK,yR]at h;obtain⟨⟨⟨⟨⟨⟨⟨rfl,h1⟩,h2⟩,h3⟩,h4⟩,h5⟩,h6⟩,h7⟩:=h;exact RH (eq_of_beq h1) h2 h3 h4 h6 (CJ h7) (bz o ex cc X e g h5) (nN cs ex cc X args g h6)
 | .xI ks cs,ex,cc,X,e,g,h=>xU (P:=λe=>PE X e _) h λkeys vs pos h=>by
  simp only[w6,aK,ic,yK,om,yR]at h;rcases h with⟨⟨⟨⟨⟨h1,h2⟩,h3⟩,h4⟩,h5⟩,h6⟩|⟨⟨⟨rfl,rfl⟩,rfl⟩,rfl⟩
  ·exact Nj h1 h2 h3 h4 h5 h6 (pK cs ex cc X g)
  ·exact IT
 | .jU tp cs,_,_,_,_,_,h=>absurd (show false=true from h) a6
 | .DU x v,ex,cc,X,e,g,h=>b_ (P:=λe=>PE X e _) h λy pos h=>by
  simp only[aK,gR]at h;obtain⟨⟨⟨rfl,h1⟩,h2⟩,h3⟩:=h;exact Ni g h1 h2 h3
 | .fL ng a,ex,cc,X,e,g,h=>(AJ (λe h=>bz a ex cc X e g h) h).1
 | .comp k cV tg cond elt cD,ex,cc,X,e,g,h=>hU (P:=λe=>PE X e _) h λel gens sc pos h=>by
  rcases gens with _|⟨⟨t,aH,ifs,as⟩,_|⟨_,_⟩⟩<;>first | exact absurd h a6 | skip
  simp only[aK,gR,om]at h;obtain⟨⟨⟨⟨⟨⟨rfl,h1⟩,h2⟩,h3⟩,h4⟩,h5⟩,h6⟩:=h;obtain⟨AW,ko⟩:=uo cV k ex cc X t aH g h3;obtain⟨_,_,_,r⟩:=IU (pos:=pos) g h1 h2 ko AW h4 h5 (λt ht X' _ g' e he=>Ep cond never (nM cc sc) X' g' t ht e he) (λX' _ g'=>bz elt never (nM cc sc) X' el g' h6);exact r
theorem x8{kk:Nat}{G:bc}:∀(t:dZ)(ex:EX)(cc:CC)(X:Cx)(e:Expr),@Good ex kk X cc G->jP cc t e=true->PT X e (@mK ex X.K (dy G t))
 | .val (.cmp op a b),ex,cc,X,e,g,h=>uj IK (FX g (λe h=>bz a ex cc X e g h) (λe h=>bz b ex cc X e g h) h).2
 | .val (.chain o1 o2 a b c),ex,cc,X,e,g,h=>uj AK (vS g (λe h=>bz a ex cc X e g h) (λe h=>bz b ex cc X e g h) (λe h=>bz c ex cc X e g h) h).2
 | .val (.fK i),ex,cc,X,e,g,h=>fP h (bz (.fK i) ex cc X e g)
 | .val (.bf d),ex,cc,X,e,g,h=>fP h (bz (.bf d) ex cc X e g)
 | .val (.bin op a b),ex,cc,X,e,g,h=>fP h (bz (.bin op a b) ex cc X e g)
 | .val (.di cs),ex,cc,X,e,g,h=>fP h (bz (.di cs) ex cc X e g)
 | .val (.f_ cs),ex,cc,X,e,g,h=>fP h (bz (.f_ cs) ex cc X e g)
 | .val (.neg a),ex,cc,X,e,g,h=>fP h (bz (.neg a) ex cc X e g)
 | .val (.ite t a b),ex,cc,X,e,g,h=>fP h (bz (.ite t a b) ex cc X e g)
 | .val (.tup cs),ex,cc,X,e,g,h=>fP h (bz (.tup cs) ex cc X e g)
 | .val (.lst cs),ex,cc,X,e,g,h=>fP h (bz (.lst cs) ex cc X e g)
 | .val (.sub a b),ex,cc,X,e,g,h=>fP h (bz (.sub a b) ex cc X e g)
 | .val (.sQ a lo hi),ex,cc,X,e,g,h=>fP h (bz (.sQ a lo hi) ex cc X e g)
 | .val (.yE a k),ex,cc,X,e,g,h=>fP h (bz (.yE a k) ex cc X e g)
 | .val (.call f cs),ex,cc,X,e,g,h=>fP h (bz (.call f cs) ex cc X e g)
 | .val (.bi b cs),ex,cc,X,e,g,h=>fP h (bz (.bi b cs) ex cc X e g)
 | .val (.me m o cs),ex,cc,X,e,g,h=>fP h (bz (.me m o cs) ex cc X e g)
 | .val (.xI ks cs),ex,cc,X,e,g,h=>fP h (bz (.xI ks cs) ex cc X e g)
 | .val (.jU tp cs),ex,cc,X,e,g,h=>fP h (bz (.jU tp cs) ex cc X e g)
 | .val (.fL ng a),ex,cc,X,e,g,h=>uj Eg (AJ (λe h=>bz a ex cc X e g h) h).2
 | .val (.DU x v),ex,cc,X,e,g,h=>fP h (bz (.DU x v) ex cc X e g)
 | .val (.comp k cV tg cond elt cD),ex,cc,X,e,g,h=>fP h (bz (.comp k cV tg cond elt cD) ex cc X e g)
 | .di ts,ex,cc,X,e,g,h=>by
  refine eX (P:=λe=>PT X e _) h λop es pos h=>?_;simp only[aK,ic,yK]at h
  cases op with
  | Or=>exact absurd h.1.1 a6
  | And=>exact Ee (FZ ts es pos (AX ts ex cc X g) h.1.2 h.2).pt λσ H Q q=>q
 | .f_ ts,ex,cc,X,e,g,h=>by
  refine eX (P:=λe=>PT X e _) h λop es pos h=>?_;simp only[aK,ic,yK]at h
  cases op with
  | And=>exact absurd h.1.1.symm a6
  | Or=>exact Ee (F0 ts es pos (AX ts ex cc X g) h.1.2 h.2).pt λσ H Q q=>q
 | .neg t,ex,cc,X,e,g,h=>by
  refine eA (P:=λe=>PT X e _) h λop x pos h=>?_
  replace h:=(aK _ _).mp h
  cases op<;>first | exact absurd h.1 a6 | skip
  exact M_ (x8 t ex cc X x g h.2)
theorem nN{kk:Nat}{G:bc}:∀(cs:List C)(ex:EX)(cc:CC)(X:Cx)(es:List Expr),@Good ex kk X cc G->bY cc cs es=true->PA X es (@Cn ex X.K (bx G cs))
 | [],ex,cc,X,[],g,h=>MX
 | [],ex,cc,X,_::_,g,h=>by cases h
 | _::_,ex,cc,X,[],g,h=>by cases h
 | c::cs,ex,cc,X,e::es,g,h=>by
  have h':(a_ e&&bX cc c e&&bY cc cs es)=true:=h;simp only[aK]at h';exact IJ h'.1.1 (bz c ex cc X e g h'.1.2) (nN cs ex cc X es g h'.2)
theorem F2{kk:Nat}{G:bc}:∀(cs:List C)(ex:EX)(cc:CC)(X:Cx)(es:List Expr),@Good ex kk X cc G->bY cc cs es=true->PA X es (@KH ex X.K (cX G cs))
 | [],ex,cc,X,[],g,h=>Nf
 | [],ex,cc,X,_::_,g,h=>by cases h
 | _::_,ex,cc,X,[],g,h=>by cases h
 | c::cs,ex,cc,X,e::es,g,h=>by
  have h':(a_ e&&bX cc c e&&bY cc cs es)=true:=h;simp only[aK]at h';exact IQ h'.1.1 (bz c ex cc X e g h'.1.2) (F2 cs ex cc X es g h'.2)
theorem pK{kk:Nat}{G:bc}:∀(cs:List C)(ex:EX)(cc:CC)(X:Cx),@Good ex kk X cc G->∀c∈cs,∀e,bX cc c e=true->PE X e (@tE ex X.K (ev G c))
 | [],ex,cc,X,g,c,hc,e,h=>by cases hc
 | c::cs,ex,cc,X,g,c',hc,e,h=>by
  rcases bS.mp hc with z | z
  ·rw[z]at h⊢;exact bz c ex cc X e g h
  ·exact pK cs ex cc X g c' z e h
theorem AX{kk:Nat}{G:bc}:∀(ts:List dZ)(ex:EX)(cc:CC)(X:Cx),@Good ex kk X cc G->∀t∈ts,∀e,jP cc t e=true->PT X e (@mK ex X.K (dy G t))
 | [],ex,cc,X,g,c,hc,e,h=>by cases hc
 | c::cs,ex,cc,X,g,c',hc,e,h=>by
  rcases bS.mp hc with z | z
  ·rw[z]at h⊢;exact x8 c ex cc X e g h
  ·exact AX cs ex cc X g c' z e h
theorem Nk{kk:Nat}{G:bc}:∀(o:Option C)(ex:EX)(cc:CC)(X:Cx)(e:Option Expr),@Good ex kk X cc G->IG cc o e=true->PO X e (@tO ex X.K (qt G o))
 | none,ex,cc,X,none,g,h=>IL
 | none,ex,cc,X,some _,g,h=>by cases h
 | some _,ex,cc,X,none,g,h=>by cases h
 | some c,ex,cc,X,some e,g,h=>IM (bz c ex cc X e g h)
theorem Ep{kk:Nat}{G:bc}:∀(o:Option dZ)(ex:EX)(cc:CC)(X:Cx),@Good ex kk X cc G->∀t,o=some t->∀e,jP cc t e=true->PT X e (@mK ex X.K (dy G t))
 | none,ex,cc,X,g,t,ht,e,h=>by cases ht
 | some c,ex,cc,X,g,t,ht,e,h=>by cases ht;exact x8 c ex cc X e g h
theorem uo{kk:Nat}{G:bc}:∀(cV:List C)(k:SK)(ex:EX)(cc:CC)(X:Cx)(t aH:Expr),@Good ex kk X cc G->pE cc k cV t aH=true->PI X t aH (@tI ex X.K (dA G k cV))/\gE aH=true
 | [],k,ex,cc,X,t,aH,g,h=>by cases k<;>cases h
 | [c],.seq,ex,cc,X,t,aH,g,h=>by
  have h':(gE aH&&bX cc c aH)=true:=h;simp only[aK]at h';exact⟨Em (bz c ex cc X aH g h'.2),h'.1⟩
 | [c],.vals,ex,cc,X,t,aH,g,h=>by cases h
 | [c],.keys,ex,cc,X,t,aH,g,h=>by cases h
 | [c],.fJ,ex,cc,X,t,aH,g,h=>by
  refine fw (P:=λaH=>PI X t aH _/\gE aH=true) h λfe args lP pos h=>b_ (P:=λfe=>PI X t (.Call fe args lP pos) _/\gE (.Call fe args lP pos)=true) h λx p h=>?_;rcases args with _|⟨a,_|⟨a2,as⟩⟩<;>first | exact absurd h a6 | skip
  cases lP<;>first | exact absurd h a6 | skip
  simp only[aK]at h;exact⟨AR g (eq_of_beq h.1.1.1) h.1.1.2 h.1.2 (bz c ex cc X a g h.2),rfl⟩
 | [c],.enum,ex,cc,X,t,aH,g,h=>by cases h
 | [c],.Ah,ex,cc,X,t,aH,g,h=>by cases h
 | [c],.zip,ex,cc,X,t,aH,g,h=>by cases h
 | [c],.DT,ex,cc,X,t,aH,g,h=>by cases h
 | [c,d],.Ah,ex,cc,X,t,aH,g,h=>by cases h
 | [c,d],.seq,ex,cc,X,t,aH,g,h=>by cases h
 | [c,d],.DT,ex,cc,X,t,aH,g,h=>by cases h
 | [c,d],.keys,ex,cc,X,t,aH,g,h=>by cases h
 | [c,d],.vals,ex,cc,X,t,aH,g,h=>by cases h
 | [c,d],.fJ,ex,cc,X,t,aH,g,h=>by cases h
 | [c,d],.enum,ex,cc,X,t,aH,g,h=>by cases h
 | [c,d],.zip,ex,cc,X,t,aH,g,h=>by cases h
 | [c,d,m],.DT,ex,cc,X,t,aH,g,h=>by cases h
 | [c,d,m],.seq,ex,cc,X,t,aH,g,h=>by cases h
 | [c,d,m],.keys,ex,cc,X,t,aH,g,h=>by cases h
 | [c,d,m],.vals,ex,cc,X,t,aH,g,h=>by cases h
 | [c,d,m],.fJ,ex,cc,X,t,aH,g,h=>by cases h
 | [c,d,m],.Ah,ex,cc,X,t,aH,g,h=>by cases h
 | [c,d,m],.enum,ex,cc,X,t,aH,g,h=>by cases h
 | [c,d,m],.zip,ex,cc,X,t,aH,g,h=>by cases h
 | _::_::_::_::_,k,ex,cc,X,t,aH,g,h=>by cases k<;>cases h
end
section
variable [EX]
inductive S where
 | asg (tg:List Nat) (c:C)
 | jc (i:Nat) (c:C)
 | put (o i v:C)
 | dput (o i v:C)
 | par (i j:Nat) (a b:C)
 | expr (c:C)
 | ret (c:C)
 | AY
 | iff (t:dZ) (a b:List S)
 | dI (tg:List Nat) (k:SK) (cV:List C) (b:List S)
 | IV (n:Nat) (t:dZ) (b:List S)
 | Cp (a:Addr) (f:Str) (c:C)
 | never | pass | brk | cont
inductive bb where
 | nx (ρ:En) (M:ag) | rt (w:W) (M:ag) | bk (ρ:En) (M:ag) | ct (ρ:En) (M:ag) | er (x:vG) (M:ag) | af
noncomputable def bb.fQ{α:Type}(o:bJ α)(f:α->ag->bb):bb:=match o with
 | .ok a M=>f a M
 | .err x M=>.er x M
 | .af=>.af
noncomputable def bb.seq(o:bb)(f:En->ag->bb):bb:=match o with
 | .nx ρ M=>f ρ M
 | o=>o
def du(body:En->ag->bb)(it:Ev.It)(tg:List Nat):Nat->Nat->En->ag->bb
 | 0,i,ρ,M=>match itemAt M i it with
  | some none=>.nx ρ M
  | _=>.af
 | f+1,i,ρ,M=>match itemAt M i it with
  | some none=>.nx ρ M
  | some (some d)=>match bO tg d ρ with
   | none=>.af
   | some ρ=>match body ρ M with
    | .nx ρ M=>du body it tg f (i+1) ρ M
    | .ct ρ M=>du body it tg f (i+1) ρ M
    | .bk ρ M=>.nx ρ M
    | .rt w M=>.rt w M
    | .er x M=>.er x M
    | .af=>.af
  | none=>.af
noncomputable def x9(IW:En->ag->bJ Bool)(body:En->ag->bb):Nat->En->ag->bb
  | 0,_,_=>.af
  | f+1,ρ,M=>match IW ρ M with
    | .ok r M => if r then (match body ρ M with
        | .nx ρ M=>x9 IW body f ρ M
        | .ct ρ M=>x9 IW body f ρ M
        | .bk ρ M=>.nx ρ M
        | .rt w M=>.rt w M
        | .er x M=>.er x M
        | .af=>.af) else .nx ρ M
    | .err x M=>.er x M
    | .af=>.af
mutual
noncomputable def iz(G:bc):S->En->ag->bb
 | .asg tg c,ρ,M=>bb.fQ ((ev G c ρ M).bind own) λd M=>match bO tg d ρ with
  | some ρ=>.nx ρ M
  | none=>.af
 | .jc i c,ρ,M=>bb.fQ ((ev G c ρ M).bind own) λd M=>.nx (ρ.set i (some d)) M
 | .put o i v,ρ,M=>bb.fQ ((ev G v ρ M).bind own) λd M=>bb.fQ (ev G o ρ M) λx M=>bb.fQ (ev G i ρ M) λy M=>bb.fQ (gz x y d M) λ_ M=>.nx ρ M
 | .dput o i v,ρ,M=>bb.fQ ((ev G v ρ M).bind own) λd M=>bb.fQ (ev G o ρ M) λx M=>bb.fQ (ev G i ρ M) λy M=>bb.fQ (vI x y d M) λ_ M=>.nx ρ M
 | .par i j a b,ρ,M=>bb.fQ (bx G [a,b] ρ M) λds M=>match ds with
  | [x,y]=>.nx ((ρ.set i (some x)).set j (some y)) M
  | _=>.af
 | .expr c,ρ,M=>bb.fQ (ev G c ρ M) λ_ M=>.nx ρ M
 | .ret c,ρ,M=>bb.fQ (ev G c ρ M) λw M=>.rt w M
 | .AY,_,M=>.rt (.d .aJ) M
 | .iff t a b,ρ,M=>bb.fQ (dy G t ρ M) λr M=>if r then cB G a ρ M else cB G b ρ M
 | .dI tg k cV b,ρ,M=>bb.fQ (dA G k cV ρ M) λit M=>du (λρ M=>cB G b ρ M) it tg (dj M it) 0 ρ M
 | .IV n t b,ρ,M=>x9 (λρ M=>dy G t ρ M) (λρ M=>cB G b ρ M) n ρ M
 | .Cp a f c,ρ,M=>bb.fQ (bx G [c] ρ M) λds M=>match ds with
  | [d]=>.er ⟨a,[(f,d)]⟩ M
  | _=>.af
 | .never,_,_=>.af
 | .pass,ρ,M=>.nx ρ M
 | .brk,ρ,M=>.bk ρ M
 | .cont,ρ,M=>.ct ρ M
noncomputable def cB(G:bc):List S->En->ag->bb
 | [],ρ,M=>.nx ρ M
 | s::ss,ρ,M=>(iz G s ρ M).seq λρ M=>cB G ss ρ M
end
section
variable {G:bc} {lo hi:Option C} {cond:Option dZ}
theorem vZ : iz G (.asg tg c) ρ M = (bb.fQ ((ev G c ρ M).bind own) fun d M => match bO tg d ρ with
    | some ρ=>.nx ρ M
    | none=>.af):=rfl
theorem rT:iz G (.jc i c) ρ M=bb.fQ ((ev G c ρ M).bind own) λd M=>.nx (ρ.set i (some d)) M:=rfl
theorem v5:iz G (.put o i v) ρ M=bb.fQ ((ev G v ρ M).bind own) λd M=>bb.fQ (ev G o ρ M) λx M=>bb.fQ (ev G i ρ M) λy M=>bb.fQ (gz x y d M) λ_ M=>.nx ρ M:=rfl
theorem AZ:iz G (.dput o i v) ρ M=bb.fQ ((ev G v ρ M).bind own) λd M=>bb.fQ (ev G o ρ M) λx M=>bb.fQ (ev G i ρ M) λy M=>bb.fQ (vI x y d M) λ_ M=>.nx ρ M:=rfl
theorem Es : iz G (.par i j a b) ρ M = (bb.fQ (bx G [a, b] ρ M) fun ds M => match ds with
    | [x,y]=>.nx ((ρ.set i (some x)).set j (some y)) M
    | _=>.af):=rfl
theorem rV:iz G (.expr c) ρ M=bb.fQ (ev G c ρ M) λ_ M=>.nx ρ M:=rfl
theorem v7:iz G (.ret c) ρ M=bb.fQ (ev G c ρ M) λw M=>.rt w M:=rfl
theorem v8:iz G (.iff t a b) ρ M=bb.fQ (dy G t ρ M) λr M=>if r then cB G a ρ M else cB G b ρ M:=rfl
theorem rW:iz G (.dI tg k cV b) ρ M=bb.fQ (dA G k cV ρ M) λit M=>du (λρ M=>cB G b ρ M) it tg (dj M it) 0 ρ M:=rfl
theorem Et:iz G (.IV n t b) ρ M=x9 (λρ M=>dy G t ρ M) (λρ M=>cB G b ρ M) n ρ M:=rfl
theorem v9 : iz G (.Cp a f c) ρ M = (bb.fQ (bx G [c] ρ M) fun ds M => match ds with
    | [d]=>.er ⟨a,[(f,d)]⟩ M
    | _=>.af):=rfl
theorem rX:cB G [] ρ M=.nx ρ M:=rfl
theorem nO:cB G (s::ss) ρ M=(iz G s ρ M).seq λρ M=>cB G ss ρ M:=rfl
end
noncomputable def eM(e:Expr):Bool:=Nat.beq e.ctorIdx 8||(Nat.beq e.ctorIdx 9||Nat.beq e.ctorIdx 10)
def F3(cc:CC)(t v:Expr):Bool:=(!eM v && !(kF t&&kF v))||d7 t λx _=>cc.names.lookup x==some .cell
mutual
noncomputable def IX(cc:CC):S->Stmt->Bool
 | .asg tg c,s=>gC s λts v _=>match ts with
  | [t]=>hZ cc tg t&&F3 cc t v&&(!eM v||Nat.beq v.ctorIdx 8)&&bX cc c v
  | _=>false
 | .jc i c,s=>gC s λts v _=>match ts with
  | [t]=>d7 t λx p=>fN v λel gens sc q=>cc.N[i]? == some x&&cc.names.lookup x==some .local&&p.line==q.line && !(sc.names.any λ(n,k)=>n==x&&(k == .local||k == .cell))&&bX cc c (.ListComp el gens sc q)
  | _=>false
 | .put o i v,s=>gC s λts w _=>match ts with
  | [t]=>cZ t λe f _=>iX f&&bX cc o e&&bX cc i f&&bX cc v w
  | _=>false
 | .dput o i v,s=>false
 | .par i j a b,s=>false
 | .expr c,s=>ue s λe _=>!eM e&&bX cc c e
 | .ret c,s=>iW s λo _=>match o with
  | some e=>bX cc c e
  | none=>false
 | .AY,s=>iW s λo _=>o.isNone
 | .iff t a b,s=>ID s λc x y _=>jP cc t c&&h_ cc a x&&h_ cc b y
 | .dI tg k cV b,s=>Az s λt aH body TU _=>TU.isEmpty&&pE cc k cV t aH&&hZ cc tg t&&h_ cc b body
 | .IV _ t b,s=>false
 | .Cp a f c,s=>pA s λe k _=>k.isNone&&(match e with
  | some e=>gA e λfe args lP _=>lP.isEmpty&&(d7 fe λx _=>glob cc x&&cA x&&cc.xs.lookup x==some (a,f))&&bY cc [c] args
  | none=>false)
 | .never,_=>true
 | .pass,s=>uf s λ_=>true
 | .brk,s=>pB s λ_=>true
 | .cont,s=>ix s λ_=>true
noncomputable def h_(cc:CC):List S->List Stmt->Bool
 | [],[]=>true
 | s::ss,t::ts=>IX cc s t&&h_ cc ss ts
 | _,_=>false
end
def nP(K:Frag)(ads:List Addr)(H:Hp)(D:Ends):bb->Prop
 | .nx ρ M=>∀cI H' aq,av ads aq H H'->SR K aq M ρ cI H'->D.nx cI H'
 | .bk ρ M=>∀cI H' aq,av ads aq H H'->SR K aq M ρ cI H'->D.bk cI H'
 | .ct ρ M=>∀cI H' aq,av ads aq H H'->SR K aq M ρ cI H'->D.ct cI H'
 | .rt w M=>jZ K ads H w M D.rt
 | .er x M=>EX.post K ads H x M
 | .af=>False
def qu(K:Frag)(o:En->ag->bb):TS:=λD σ H=>∃ads M ρ,SR K ads M ρ σ H/\nP K ads H D (o ρ M)
theorem nP.shift{K:Frag}{ads aq:List Addr}{H H':Hp}{M M2:ag}{D:Ends}{o:bb}(p:nP K ads H D o)(g:av ads aq H H')(m:aR K ads H M)(m':aR K aq H' M2):nP K aq H' D o:=by
 cases o with
 | nx ρ M=>exact λσ H1 ai g1 s1=>p σ H1 ai (g.trans g1) s1
 | bk ρ M=>exact λσ H1 ai g1 s1=>p σ H1 ai (g.trans g1) s1
 | ct ρ M=>exact λσ H1 ai g1 s1=>p σ H1 ai (g.trans g1) s1
 | rt w M=>exact jZ.shift p g m m'
 | er x M=>exact EX.shift p g
 | af=>exact p
theorem x_{X:Cx}{st:Stmt}{t u:TS}(h:PS X st t)(f:∀D σ H,u D σ H->t D σ H):PS X st u:=λae s σ H D I q=>h ae s σ H D I (f D σ H q)
theorem Nl{X:Cx}{st:List Stmt}{t u:TS}(h:nh X st t)(f:∀D σ H,u D σ H->t D σ H):nh X st u:=λae s σ H D I q=>h ae s σ H D I (f D σ H q)
section
variable {kk:Nat} {X:Cx} {cc:CC} {G:bc}
theorem pL{e:Expr}(h:eM e=false)(t:Option Expr)(l:Nat)(env:Env):swapsWith e t l env=pure false:=by
 cases e<;>first | rfl | exact absurd (show true=false from h).symm a6
theorem Nm{K:Frag}{o:En->ag->bb}{k:En->ag->bb}{σ:L2.St}{H:Hp}{D:Ends}(h:qu K (λρ M=>(o ρ M).seq k) D σ H):LG (qu K o) (qu K k) D σ H:=by
 obtain⟨ads,M,ρ,s,q⟩:=h;have q:nP K ads H D ((o ρ M).seq k):=q;refine⟨ads,M,ρ,s,?_⟩
 cases hq:o ρ M with
 | nx KN M1 =>
  rw[hq]at q;intro Ta H1 ai g1 s1;exact⟨ai,M1,KN,s1,nP.shift (o:=k KN M1) q g1 s.mem s1.mem⟩
 | bk ρ M=>rw[hq]at q;exact q
 | ct ρ M=>rw[hq]at q;exact q
 | rt w M=>rw[hq]at q;exact q
 | er x M=>rw[hq]at q;exact q
 | af=>rw[hq]at q;exact q
theorem Eu {K : Frag} {body : En -> ag -> bb} {it : Ev.It} {J : L2.It} {tg : List Nat} {tb : TS} (hb : ∀ D σ H, qu K body D σ H -> tb D σ H) {ads : List Addr} {M : ag} {ρ : En} {σ : L2.St} {H : Hp} {D : Ends} {f : Nat}
    (s:SR K ads M ρ σ H) (hJ:KL K ads H it J) (q:nP K ads H D (du body it tg f 0 ρ M)) :
    ∃W:Nat->Nat->L2.St->Hp->Prop,(∃m,W 0 m σ H)/\∀i m σ H,W i m σ H ->
      (J.stop i H/\D.nx σ H)\/(J.go i H/\∃N:L2.St->Hp->Prop,(∀cI H',N cI H'->∃m',m'<m/\W (i+1) m' cI H')/\∀x H',J.LL i H x H'->tG K tg x σ H' λC1 H2=>tb {D with nx:=N,ct:=N,bk:=D.nx} C1 H2):=by
  refine⟨λi m cI H'=>∃aq M' d4,SR K aq M' d4 cI H'/\av ads aq H H'/\nP K ads H D (du body it tg m i d4 M'),⟨f,ads,M,ρ,s,av.refl _ _,q⟩,?_⟩;rintro i m cI H' ⟨aq,M',d4,s',g',q'⟩;obtain⟨r1,r2⟩:=hJ i aq H' M' g' s'.mem
  cases m with
  | zero =>
    unfold du at q';split at q'
    · rename_i hi
      exact .inl ⟨r1 hi,q' cI H' aq g' s'⟩
    · exact q'.elim
  | succ m =>
    unfold du at q';split at q'
    · rename_i hi
      exact .inl ⟨r1 hi,q' cI H' aq g' s'⟩
    · rename_i d hi
      obtain⟨go,yl⟩:=r2 d hi
      cases z8:bO tg d d4 with
      | none=>rw[z8]at q';exact q'.elim
      | some KN =>
        rw[z8]at q';dsimp only at q';refine .inr ⟨go,λC1 H2=>∃bU M2 IY,SR K bU M2 IY C1 H2/\av ads bU H H2/\nP K ads H D (du body it tg m (i+1) IY M2),λC1 H2 h=>⟨m,CM _,h⟩,λx H2 y=>?_⟩;obtain⟨g2,m2,rd⟩:=yl x H2 y;refine⟨aq,M',d4,d,s'.grow g2 m2,rd,KN,z8,λC1 s2=>hb _ _ _ ⟨aq,M',KN,s2,?_⟩⟩;have gg:=g'.trans g2
        cases hq:body KN M' with
        | nx Pt M3=>rw[hq]at q';exact λC3 H3 dt g3 s3=>⟨dt,M3,Pt,s3,gg.trans g3,q'⟩
        | ct Pt M3=>rw[hq]at q';exact λC3 H3 dt g3 s3=>⟨dt,M3,Pt,s3,gg.trans g3,q'⟩
        | bk Pt M3=>rw[hq]at q';exact λC3 H3 dt g3 s3=>q' C3 H3 dt (gg.trans g3) s3
        | rt w M3=>rw[hq]at q';exact jZ.shift (M:=M) (M2:=M') q' gg s.mem s2.mem
        | er x M3=>rw[hq]at q';exact EX.shift (show EX.post K ads H _ _ from q') gg
        | af=>rw[hq]at q';exact q'.elim
    · exact q'.elim
theorem RK{K:Frag}{ads:List Addr}{M:ag}{ρ:En}{σ:L2.St}{H:Hp}{D:Ends}{o:En->ag->bJ W}{k:W->ag->bb}{R:V->Hp->Prop}(s:SR K ads M ρ σ H)(q:nP K ads H D (bb.fQ (o ρ M) k))(hk:∀w M1 v H1 ai,SR K ai M1 ρ σ H1->RW K ai H1 w v->nP K ai H1 D (k w M1)->R v H1):tE K o σ H R:=by
 refine⟨ads,M,ρ,s,?_⟩
 cases hq:o ρ M with
 | ok w M1 =>
  rw[hq]at q;intro v H1 ai g1 m1 r1;exact hk w M1 v H1 ai (s.grow g1 m1) r1.rw (nP.shift (o:=k w M1) q g1 s.mem m1)
 | err _ _=>rw[hq]at q;exact q
 | af=>rw[hq]at q;exact q
theorem IZ{K:Frag}{ads:List Addr}{M:ag}{ρ:En}{σ:L2.St}{H:Hp}{D:Ends}{c:C}{k:Ev.D->ag->bb}{R:V->Hp->Prop}(s:SR K ads M ρ σ H)(q:nP K ads H D (bb.fQ ((ev G c ρ M).bind own) k))(hk:∀(d:Ev.D) M1 v H1 ai,SR K ai M1 ρ σ H1->RD K ai H1 d v->nP K ai H1 D (k d M1)->R v H1):tE K (ev G c) σ H R:=by
 refine⟨ads,M,ρ,s,?_⟩
 cases hq:ev G c ρ M with
 | ok w M1 =>
  rw[hq]at q;intro v H1 ai g1 m1 r1;have q:nP K ads H D (bb.fQ (own w M1) k):=q
  cases ho:own w M1 with
  | ok d M2 =>
   rw[ho]at q;obtain⟨bU,g2,m2,rd⟩:=lR s.mem g1 m1 r1 ho;exact hk d M2 v H1 bU (s.grow g2 m2) rd (nP.shift (o:=k d M2) q g2 s.mem m2)
  | err _ _=>cases w<;>cases ho
  | af=>cases w<;>cases ho
 | err _ _=>rw[hq]at q;exact q
 | af=>rw[hq]at q;exact q
theorem Ew{tg:List Nat}{t:Expr}(h:hZ cc tg t=true):(∃x p,t=.Name x p)\/∃es k p,t=.Tuple es k p:=by
 rcases tg with _|⟨i,_|⟨j,r⟩⟩
 ·exact absurd h a6
 ·exact .inl (b_ (P:=λt=>∃x p,t=.Name x p) ((aK _ _).mp h).1 λx p _=>⟨x,p,rfl⟩)
 ·exact .inr (iw (P:=λt=>∃es k p,t=.Tuple es k p) h λes k p _=>⟨es,k,p,rfl⟩)
theorem nQ{el:Expr}{gens:List Comprehension}{sc:Scope}{q p:Pos}{x:Str}{l:Nat}{env:Env}:swapsWith (.ListComp el gens sc q) (some (.Name x p)) l env=pure (env.blockKind == .function&&env.kindOf x==some .local&&p.line==q.line && !(sc.names.any λ(n,k)=>n==x&&(k == .local||k == .cell))):=rfl
theorem Nn{tg:List Nat}{c:C}{t v:Expr}{pos:Pos}(g:Good kk X cc G)(ht:hZ cc tg t=true)(hv:F3 cc t v=true)(Wj:eM v=true->∃el gens sc q,v=.ListComp el gens sc q)(he:PE X v (tE X.K (ev G c))):PS X (.Assign [t] v pos) (qu X.K (iz G (.asg tg c))):=by
 have hg:=ja g ht
 have qk:∀D σ H,qu X.K (iz G (.asg tg c)) D σ H->C0 (tE X.K (ev G c)) (tG X.K tg) D σ H:=by
  intro D σ H q;obtain⟨ads,M,ρ,s,q⟩:=q;refine IZ s (by simp only[vZ]at q;exact q) λd M1 v H1 ai s1 rd q1=>?_
  cases hb:bO tg d ρ with
  | none=>simp only[hb]at q1;exact q1.elim
  | some d4 =>
   simp only[hb]at q1;exact⟨ai,M1,ρ,d,s1,rd,d4,hb,λcI s'=>q1 cI H1 ai (av.refl _ _) s'⟩
 rcases Ew ht with⟨x,p,rfl⟩|⟨es,k,p,rfl⟩
 ·refine x_ (tq he hg ?_ (by unfold swappedStores;cases v<;>rfl) rfl) qk;show swapsWith v (some (.Name x p)) pos.line X.env=pure false
  cases hc:eM v with
  | false=>exact pL hc _ _ _
  | true =>
   have hv:((!eM v && !(false&&kF v))||(cc.names.lookup x==some .cell))=true:=hv;rw[hc]at hv;have hk:X.env.kindOf x=some .cell:=g.kinds x .cell (by simpa using hv);obtain⟨el,gens,sc,q,rfl⟩:=Wj hc;rw[nQ,hk,show((some NameKind.cell:Option NameKind)==some NameKind.local)=false from rfl];simp
 ·have RL:((!eM v && !(true&&kF v))||false)=true:=hv;simp only[Bool.or_false,yY,aK,ic]at RL;refine x_ (tq he hg (show swapsWithSole [.Tuple es k p] v pos.line X.env=pure false from pL RL.1 (some (.Tuple es k p)) pos.line X.env) ?_ rfl) qk;unfold swappedStores;cases v<;>first | rfl | exact absurd (show true=false from RL.2).symm a6
theorem I0{i:Nat}{c:C}{x:Str}{p q pos:Pos}{el t aH:Expr}{ifs:List Expr}{sc:Scope}{N':List Str}{cD:List (Option Nat)}{wi:TI}{gt:TG}{tc:Option TT}{te:TE}(g:Good kk X cc G)(hk:X.env.blockKind=.function)(hx:cc.N[i]?=some x)(hl:cc.names.lookup x=some .local)(hp:p.line=q.line)(hn:(sc.names.any λ(n,k)=>n==x&&(k == .local||k == .cell))=false)(hw:∀(ae:List (Addr×Obj))(s:Shared)(σ:L2.St)(H:Hp),Inv X ae σ H s->∃cl,PI X t aH wi/\jE X sc N' cD cl t el ifs gt tc te)(RM:∀x,foldedSetIterable aH X.env x=pure x)(qk:∀σ H Q,tE X.K (ev G c) σ H Q->vC cD wi gt tc te σ H Q):PS X (.Assign [.Name x p] (.ListComp el [⟨t,aH,ifs,0⟩] sc q) pos) (qu X.K (iz G (.jc i c))):=by
 intro ae s σ H D I h;obtain⟨cl,hi,ck⟩:=hw ae s σ H I;refine DH (i:=i) g.calm (by rw[g.N];exact g.nd) (by rw[g.N];exact hx) (g.kinds x _ hl) ?_ hi ck RM ae s σ H D I ?_
 ·rw[nQ,hk,show X.env.kindOf x=some .local from g.kinds x _ hl,hn,hp];simp
 ·obtain⟨ads,M,ρ,sr,h⟩:=h;refine qk σ H _ (IZ sr (by simp only[rT]at h;exact h) λd M1 v H1 ai s1 rd q1=>?_);exact q1 _ H1 ai (av.refl _ _) (s1.set i rd)
theorem Np{o i v:C}{e f w:Expr}{sp pos:Pos}(g:Good kk X cc G)(hf:iX f=true)(ho:PE X e (tE X.K (ev G o)))(hi:PE X f (tE X.K (ev G i)))(hv:PE X w (tE X.K (ev G v))):PS X (.Assign [.Subscript e f sp] w pos) (qu X.K (iz G (.put o i v))):=by
 have Pk:=g.room.un;refine x_ (tq hv (Hc ho hi (IC ∅) (by intro _;cases f<;>first | rfl | exact absurd (show false=true from hf) a6)) (show swapsWithSole [.Subscript e f sp] w pos.line X.env=pure false from (by cases w<;>rfl)) (by unfold swappedStores;cases w<;>rfl) rfl) λD σ H q=>?_;obtain⟨ads,M,ρ,s,q⟩:=q;refine IZ s (by simp only[v5]at q;exact q) λd M1 v H1 ai s1 rd q1=>?_;refine⟨ai,M1,ρ,s1,?_⟩
 cases h2:ev G o ρ M1 with
 | ok wo M2 =>
  rw[h2]at q1;intro vo H2 bU g2 m2 ro;have s2:=s1.grow g2 m2;refine⟨bU,M2,ρ,s2,?_⟩;have q2:nP X.K ai H1 D (bb.fQ (ev G i ρ M2) λy M=>bb.fQ (gz wo y d M) λ_ M=>.nx ρ M):=q1
  cases h3:ev G i ρ M2 with
  | ok wi M3 =>
   rw[h3]at q2;intro vi H3 dt g3 m3 ri;have s3:=s2.grow g3 m3;have q3:nP X.K ai H1 D (bb.fQ (gz wo wi d M3) λ_ M=>.nx ρ M):=q2;refine⟨dt,M3,wo,wi,d,m3,g3.rw ro.rw,ri.rw,(g2.trans g3).rd _ _ rd,?_⟩
   cases h4:gz wo wi d M3 with
   | ok u M4 =>
    rw[h4]at q3;intro H4 Ef g4 m4;exact q3 σ H4 Ef ((g2.trans g3).trans g4) (s3.grow g4 m4)
   | err _ _=>rw[h4]at q3;exact EX.shift (show EX.post X.K ai H1 _ _ from q3) (g2.trans g3)
   | af=>rw[h4]at q3;exact q3
  | err _ _=>rw[h3]at q2;exact EX.shift (show EX.post X.K ai H1 _ _ from q2) g2
  | af=>rw[h3]at q2;exact q2
 | err _ _=>rw[h2]at q1;exact q1
 | af=>rw[h2]at q1;exact q1
theorem I_{c:C}{e:Expr}{pos:Pos}(hc:eM e=false)(he:PE X e (tE X.K (ev G c))):PS X (.Expr e pos) (qu X.K (iz G (.expr c))):=by
 refine x_ (CV he (pL hc _ _ _)) λD σ H q=>?_;obtain⟨ads,M,ρ,s,q⟩:=q;exact RK (k:=λ_ M=>.nx ρ M) s (by simp only[rV]at q;exact q) λw M1 v H1 ai s1 r1 q1=>q1 σ H1 ai (av.refl _ _) s1
theorem Nq{c:C}{e:Expr}{pos:Pos}(he:PE X e (tE X.K (ev G c))):PS X (.Return (some e) pos) (qu X.K (iz G (.ret c))):=by
 refine x_ (zk he) λD σ H q=>?_;obtain⟨ads,M,ρ,s,q⟩:=q;refine⟨ads,M,ρ,s,?_⟩;simp only[v7]at q
 cases hq:ev G c ρ M with
 | ok w M1=>rw[hq]at q;exact q
 | err _ _=>rw[hq]at q;exact q
 | af=>rw[hq]at q;exact q
theorem RN{t:dZ}{a b:List S}{c:Expr}{x y:List Stmt}{pos:Pos}(ht:PT X c (mK X.K (dy G t)))(ha:nh X x (qu X.K (cB G a)))(hb:nh X y (qu X.K (cB G b))):PS X (.If c x y pos) (qu X.K (iz G (.iff t a b))):=by
 refine x_ (zl ht ha hb) λD σ H q=>?_;obtain⟨ads,M,ρ,s,q⟩:=q;refine⟨ads,M,ρ,s,?_⟩;simp only[v8]at q
 cases hq:dy G t ρ M with
 | ok r M1 =>
  rw[hq]at q;intro H1 ai g1 m1;have q:nP X.K ads H D (if r then cB G a ρ M1 else cB G b ρ M1):=q;have q:=q.shift g1 s.mem m1
  cases r with
  | true=>rw[aS rfl]at q⊢;exact⟨ai,M1,ρ,s.grow g1 m1,q⟩
  | false=>rw[a8 (by simp)]at q⊢;exact⟨ai,M1,ρ,s.grow g1 m1,q⟩
 | err _ _=>rw[hq]at q;exact q
 | af=>rw[hq]at q;exact q
theorem Nr{tg:List Nat}{k:SK}{cV:List C}{b:List S}{t aH:Expr}{body:List Stmt}{pos:Pos}(g:Good kk X cc G)(hx:PassesOwn (model X.prog X.w) X.A X.env X.xe)(hs:PI X t aH (tI X.K (dA G k cV)))(hn:gE aH=true)(ht:hZ cc tg t=true)(hb:nh X body (qu X.K (cB G b))):PS X (.For t aH body [] pos) (qu X.K (iz G (.dI tg k cV b))):=by
 refine x_ (He hx g.calm hs (ja g ht) hb (pJ hn X.env)) λD σ H q=>?_;obtain⟨ads,M,ρ,s,q⟩:=q;refine⟨ads,M,ρ,s,?_⟩;simp only[rW]at q
 cases hq:dA G k cV ρ M with
 | ok it M1 =>
  rw[hq]at q;intro J H1 ai g1 m1 rj;exact Eu (λD σ H h=>h) (s.grow g1 m1) rj (nP.shift (o:=du (λρ M=>cB G b ρ M) it tg (dj M1 it) 0 ρ M1) q g1 s.mem m1)
 | err _ _=>rw[hq]at q;exact q
 | af=>rw[hq]at q;exact q
end
section
variable {kk:Nat} {X:Cx} {cc:CC} {G:bc}
def Nt(kk:Nat)(X:Cx)(xs:List (Str×Addr×Str)):Prop:=∀(x:Str)(a:Addr)(f:Str),xs.lookup x=some (a,f)->∃D fI fd sf oI j,j+1<=kk/\qm X.K a D fI f/\X.K.lookup fI=some oI/\oI.cls=.type "function" /\ dE X.prog X.w X.K X.mg X.base FO j fI fd [sf,f] (HX X.K a D fI f)/\Binds X.K fd [sf,f] []/\X.mg x=some (.ref a)
theorem Nu{a:Addr}{f x:Str}{c:C}{e:Expr}{np cF pos:Pos}{E:XK}(g:Good kk X cc G)(p:nH X E)(im:∀{K:Frag}{ads:List Addr}{H:Hp}{x:vG}{M:ag},EX.post K ads H x M->(tV E).post K ads H x M)(hd:X.A.handled=none)(RO:Nt kk X cc.xs)(hg:glob cc x=true)(hp:cA x=true)(hl:cc.xs.lookup x=some (a,f))(e6:a_ e=true)(ha:PA X [e] (Cn X.K (bx G [c]))):PS X (.Raise (some (.Call (.Name x np) [e] [] cF)) none pos) (qu X.K (iz G (.Cp a f c))):=by
 obtain⟨D,fI,fd,sf,oI,j,hj,xi,lo,co,F,hb,hm⟩:=RO x a f hl;refine x_ (Ad p hd xi lo co F (g.room.mono hj) hb (g.gl hg) hm ha (cR e6 [] X.env) (gK hp).1) λZ σ H q=>?_;obtain⟨ads,M,ρ,s,q⟩:=q;refine⟨ads,M,ρ,s,?_⟩;simp only[v9]at q
 cases hd:bx G [c] ρ M with
 | ok ds M1 =>
  rw[hd]at q;rcases ds with _|⟨d1,_|⟨d2,r⟩⟩<;>first | exact q.elim | skip
  intro vs H1 ai g1 m1 rd;unfold aT at rd;obtain⟨v,r1,rfl,h1,rd⟩:=rd;unfold aT at rd;subst rd;refine⟨v,rfl,λe dx n1 n2 ne=>?_⟩;have q:EX.post X.K ads H ⟨a,[(f,d1)]⟩ M1:=q;have g2:=av.dG (o:=.xd [(f,v)]) m1 n2;have m2:=m1.dG (o:=.xd [(f,v)]) n2;have n3:br H1 dx (.xd [(f,v)]) e=none:=by rw[aj (cK ne)];exact n1
  have g3:=av.dG (o:=XO e a dx) m2 n3;have m3:=m2.dG (o:=XO e a dx) n3;refine im q _ ai dx [(f,v)] ((g1.trans g2).trans g3) m3 (by rw[aj ne];exact aQ) ?_;unfold bQ;exact⟨(f,v),[],rfl,rfl,(g2.trans g3).rd _ _ h1,by unfold bQ;rfl⟩
 | err x M1=>rw[hd]at q;exact q
 | af=>rw[hd]at q;exact q.elim
end
end
section
variable [EX]
section
variable {kk:Nat} {G:bc} {X:Cx} {cc:CC}
theorem Ey{tg:List Nat}{cond:Option dZ}{elt:C}{cD:List (Option Nat)}{el t:Expr}{ifs:List Expr}{sc:Scope}(g:Good kk X cc G)(AV:rL cc sc=true)(zX:cD=lO cc sc)(RJ:hZ (nM cc sc) tg t=true)(jb:Ed (nM cc sc) cond ifs=true)(RP:bX (nM cc sc) elt el=true)(ae:List (Addr×Obj))(s:Shared)(σ:L2.St)(H:Hp)(I:Inv X ae σ H s):∃cl,jE X sc (d8 sc) cD cl t el ifs (tG X.K tg) (cond.map λt=>@mK never X.K (dy G t)) (@tE never X.K (ev G elt)):=by
 obtain⟨h1,h2,h3,h4,h5⟩:=kH AV
 obtain⟨cl,Pr⟩:=vX (X:=X) (sc:=sc) λy hy hf=>by
  obtain⟨_,ho⟩:=h5 y hy hf;refine I.ok.has y.1 ?_;rcases ho with ho | ho
  ·exact .inl (g.kinds _ _ ho)
  ·exact g.kinds _ _ ho
 refine⟨cl,h1,h2,h3,Pr,zX▸AS g AV,λC s H fp=>(by have gb:=g.block (cl:=cl) AV C s H fp;letI:=never;exact ja gb RJ),?_,λC s H fp=>bz elt never (nM cc sc) _ el (g.block AV C s H fp) RP⟩
 cases cond with
 | none =>
  cases ifs with
  | nil=>rfl
  | cons _ _=>cases jb
 | some tt =>
  cases ifs with
  | nil=>cases jb
  | cons e es =>
   cases es with
   | cons _ _=>cases jb
   | nil=>exact⟨e,rfl,λC s H fp=>x8 tt never (nM cc sc) (X.block sc cl C (d8 sc) s H fp []) e (g.block AV C s H fp) jb⟩
theorem Ez{k:SK}{cV:List C}{tg:List Nat}{cond:Option dZ}{elt:C}{cD:List (Option Nat)}(σ:L2.St)(H:Hp)(Q:VK)(q:tE X.K (ev G (.comp k cV tg cond elt cD)) σ H Q):vC cD (tI X.K (dA G k cV)) (tG X.K tg) (cond.map λt=>@mK never X.K (dy G t)) (@tE never X.K (ev G elt)) σ H Q:=by
 obtain⟨ads,M,ρ,sr,q⟩:=q;refine⟨ads,M,ρ,sr,?_⟩
 have q:cj X.K ads H Q ((dA G k cV ρ M).bind λit M=>ba (λτ M=>bB G cond τ M) (λτ M=>(ev G elt τ M).bind own) it tg (dj M it) 0 (ef cD ρ) M []):=by
  simp only[pv]at q;unfold dA
  cases hw:cX G cV ρ M with
  | ok ws M1=>rw[hw]at q;exact q
  | err _ _=>rw[hw]at q;exact q
  | af=>rw[hw]at q;exact q
 cases hs:dA G k cV ρ M with
 | ok it M1 =>
  rw[hs]at q;intro J H1 ai g1 m1 rj;exact rS (sr.grow g1 m1) rj (cj.shift (o:=ba (λτ M=>bB G cond τ M) (λτ M=>(ev G elt τ M).bind own) it tg (dj M1 it) 0 (ef cD ρ) M1 []) q g1 sr.mem m1)
 | err _ _=>rw[hs]at q;exact q
 | af=>rw[hs]at q;exact q
structure A_ (kk:Nat) (X:Cx) (cc:CC) (G:bc):Prop where
 g:Good kk X cc G
 bk:X.env.blockKind=.function
 nx:PassesOwn (model X.prog X.w) X.A X.env X.xe
 xp:∃E:XK,nH X E/\∀{K:Frag}{ads:List Addr}{H:Hp}{x:vG}{M:ag},EX.post K ads H x M->(tV E).post K ads H x M
 xs:Nt kk X cc.xs
theorem ya{v:Expr}(h:(!eM v||Nat.beq v.ctorIdx 8)=true)(hc:eM v=true):∃el gens sc q,v=.ListComp el gens sc q:=by
 rw[hc]at h;exact Expr.ListComp.elim (motive_1:=λv=>∃el gens sc q,v=.ListComp el gens sc q) v (Nat.eq_of_beq_eq_true h) λel gens sc q=>⟨el,gens,sc,q,rfl⟩
theorem Ja{c:C}{el:Expr}{gens:List Comprehension}{sc:Scope}{q:Pos}(h:bX cc c (.ListComp el gens sc q)=true):∃k cV tg cond elt cD,c=.comp k cV tg cond elt cD:=by
 cases c<;>first | exact absurd (show false=true from h) a6 | exact⟨_,_,_,_,_,_,rfl⟩
end
mutual
theorem RQ{kk:Nat}{G:bc}:∀(s:S)(cc:CC)(X:Cx)(st:Stmt),A_ kk X cc G->IX cc s st=true->PS X st (qu X.K (iz G s))
 | .asg tg c,cc,X,st,g,h=>gD (P:=λst=>PS X st _) h λts v pos h=>by
  rcases ts with _|⟨t,_|⟨_,_⟩⟩<;>first | exact absurd h a6 | skip
  simp only[aK]at h;exact Nn g.g h.1.1.1 h.1.1.2 (ya h.1.2) (bz c _ cc X v g.g h.2)
 | .jc i c,cc,X,st,g,h=>gD (P:=λst=>PS X st _) h λts v pos h=>by
  rcases ts with _|⟨t,_|⟨_,_⟩⟩<;>first | exact absurd h a6 | skip
  refine b_ (P:=λt=>PS X (.Assign [t] v pos) _) h λx p h=>hU (P:=λv=>PS X (.Assign [.Name x p] v pos) _) h λel gens sc q h=>?_;simp only[aK,ic]at h;obtain⟨⟨⟨⟨h1,h2⟩,h3⟩,h4⟩,h5⟩:=h;obtain⟨k,cV,tg,cond,elt,cD,rfl⟩:=Ja h5;rcases gens with _|⟨⟨t,aH,ifs,as⟩,_|⟨_,_⟩⟩<;>first | exact absurd (show false=true from h5) a6 | skip
  have h6:(as==0&&rL cc sc&&decide (cD=lO cc sc)&&pE cc k cV t aH&&hZ (nM cc sc) tg t&&Ed (nM cc sc) cond ifs&&bX (nM cc sc) elt el)=true:=h5;simp only[aK,gR,om]at h6;obtain⟨⟨⟨⟨⟨⟨rfl,k1⟩,k2⟩,k3⟩,k4⟩,k5⟩,k6⟩:=h6;obtain⟨AW,ko⟩:=uo cV k _ cc X t aH g.g k3
  exact I0 g.g g.bk (eq_of_beq h1) (eq_of_beq h2) (eq_of_beq h3) h4 (λae s σ H I=>by
   obtain⟨cl,ck⟩:=Ey g.g k1 k2 k4 k5 k6 ae s σ H I;exact⟨cl,AW,ck⟩) (pJ ko X.env) Ez
 | .par i j a b,_,_,_,_,h=>absurd (show false=true from h) a6
 | .put o i v,cc,X,st,g,h=>gD (P:=λst=>PS X st _) h λts w pos h=>by
  rcases ts with _|⟨t,_|⟨_,_⟩⟩<;>first | exact absurd h a6 | skip
  refine dq (P:=λt=>PS X (.Assign [t] w pos) _) h λe f sp h=>?_;simp only[aK]at h;obtain⟨⟨⟨h1,h3⟩,h4⟩,h5⟩:=h;exact Np g.g h1 (bz o _ cc X e g.g h3) (bz i _ cc X f g.g h4) (bz v _ cc X w g.g h5)
 | .dput o i v,_,_,_,_,h=>absurd (show false=true from h) a6
 | .expr c,cc,X,st,g,h=>xW (P:=λst=>PS X st _) h λe pos h=>by
  simp only[aK,ic]at h;exact I_ h.1 (bz c _ cc X e g.g h.2)
 | .ret c,cc,X,st,g,h=>j5 (P:=λst=>PS X st _) h λv pos h=>by
  cases v with
  | none=>exact absurd h a6
  | some e=>exact Nq (bz c _ cc X e g.g h)
 | .AY,cc,X,st,g,h=>j5 (P:=λst=>PS X st _) h λv pos h=>by
  cases v with
  | some e=>exact absurd h a6
  | none =>
   refine x_ CW λD σ H q=>?_;obtain⟨ads,M,ρ,s,q⟩:=q;exact q .aJ H ads (av.refl _ _) s.mem (show RD X.K ads H .aJ .aJ from jN)
 | .iff t a b,cc,X,st,g,h=>Ea (P:=λst=>PS X st _) h λc x y pos h=>by
  simp only[aK]at h;exact RN (x8 t _ cc X c g.g h.1.1) (rY a cc X x g h.1.2) (rY b cc X y g h.2)
 | .dI tg k cV b,cc,X,st,g,h=>AA (P:=λst=>PS X st _) h λt aH body TU pos h=>by
  simp only[aK,yR]at h;obtain⟨⟨⟨rfl,h1⟩,h2⟩,h3⟩:=h;obtain⟨hs,hn⟩:=uo cV k _ cc X t aH g.g h1;exact Nr g.g g.nx hs hn h2 (rY b cc X body g h3)
 | .IV n t b,_,_,_,_,h=>absurd (show false=true from h) a6
 | .Cp a f c,cc,X,st,g,h=>ud (P:=λst=>PS X st _) h λe k pos h=>by
  replace h:=(aK _ _).mp h
  cases k with
  | some _=>exact absurd h.1 a6
  | none =>
   cases e with
   | none=>exact absurd h.2 a6
   | some e =>
    refine fw (P:=λe=>PS X (.Raise (some e) none pos) _) h.2 λfe args lP cF h=>?_
    replace h:=(aK _ _).mp h
    obtain⟨h1,h3⟩:=h
    replace h1:=(aK _ _).mp h1
    obtain⟨h1,h2⟩:=h1;obtain rfl:=yR.mp h1;refine b_ (P:=λfe=>PS X (.Raise (some (.Call fe args [] cF)) none pos) _) h2 λx np h2=>?_;simp only[aK,gR]at h2;obtain⟨⟨k1,k2⟩,k3⟩:=h2;rcases args with _|⟨a1,_|⟨a2,as⟩⟩
    ·cases h3
    ·have h4:(a_ a1&&bX cc c a1&&bY cc [] [])=true:=h3;simp only[aK]at h4;obtain⟨E,xp,im⟩:=g.xp;exact Nu g.g xp im g.g.room.hd g.xs k1 k2 k3 h4.1.1 (nN [c] _ cc X [a1] g.g h3)
    ·have h4:(a_ a1&&bX cc c a1&&bY cc [] (a2::as))=true:=h3;simp only[aK]at h4;exact absurd h4.2 a6
 | .never,cc,X,st,g,h=>x_ zm λD σ H q=>by
  obtain⟨ads,M,ρ,s,q⟩:=q;exact q
 | .pass,cc,X,st,g,h=>xX (P:=λst=>PS X st _) h λpos h=>x_ CU λD σ H q=>by
  obtain⟨ads,M,ρ,s,q⟩:=q;exact q σ H ads (av.refl _ _) s
 | .brk,cc,X,st,g,h=>ug (P:=λst=>PS X st _) h λpos h=>x_ zj λD σ H q=>by
  obtain⟨ads,M,ρ,s,q⟩:=q;exact q σ H ads (av.refl _ _) s
 | .cont,cc,X,st,g,h=>mW (P:=λst=>PS X st _) h λpos h=>x_ qM λD σ H q=>by
  obtain⟨ads,M,ρ,s,q⟩:=q;exact q σ H ads (av.refl _ _) s
theorem rY{kk:Nat}{G:bc}:∀(ss:List S)(cc:CC)(X:Cx)(st:List Stmt),A_ kk X cc G->h_ cc ss st=true->nh X st (qu X.K (cB G ss))
 | [],cc,X,[],g,h=>Nl oJ λD σ H q=>by
  obtain⟨ads,M,ρ,s,q⟩:=q;exact q σ H ads (av.refl _ _) s
 | [],cc,X,_::_,g,h=>by cases h
 | _::_,cc,X,[],g,h=>by cases h
 | s::ss,cc,X,t::ts,g,h=>by
  have h':(IX cc s t&&h_ cc ss ts)=true:=h;simp only[aK]at h';exact Nl (gr (RQ s cc X t g h'.1) (rY ss cc X ts g h'.2)) λD σ H q=>Nm q
end
end
noncomputable def fR(n:Nat)(ds:List D):En:=ds.map some++List.replicate (n-ds.length) none
def ah(G:bc)(n:Nat)(body:List S)(ds:List D)(M:ag):bJ W:=match cB G body (fR n ds) M with
 | .rt w M=>.ok w M
 | .nx _ M=>.ok (.d .aJ) M
 | .er x M=>.err x M
 | _=>.af
theorem Ba{K:Frag}{ads:List Addr}{H:Hp}:∀{ds:List D}{vs:List V}(r:aT K ads H ds vs)(k:Nat),ME K ads H (ds.map some++List.replicate k none) (vs.map some++List.replicate k none)
 | ds,vs,r,k=>by
  intro i d e;by_cases hi:i<ds.length
  ·rw[jq (by simpa using hi),dz]at e
   cases q:ds[i]? with
   | none=>rw[q]at e;cases e
   | some d' =>
    rw[q]at e;cases e;obtain⟨v,ev,rv⟩:=r.get q;exact⟨v,by rw[jq (by rw[aE,<- r.len];exact hi),dz,ev];rfl,rv⟩
  ·rw[qw (by simpa using hi),List.getElem?_replicate]at e;split at e<;>cases e
theorem Bb{P:Program}{w:World}{K:Frag}{mg:Str->Option Value}{base:Heap}{x qual:Str}{st:Stmt}{f:Addr}{fd:FuncData}{N ps:List Str}{k:Nat}{G:bc}{fs:List (Str×Nat)}{gs:List (Str×Int)}{xs:List (Str×Addr×Str)}{body:List S}{n:Nat}(F:Ky K x qual st f fd)(Sc:fF N ps (aF st))(hn:ps.length=n)(hb:h_ ⟨N,(aF st).names,fs,gs,xs⟩ body (bZ st)=true)(RS:∀b∈dr,mg b=none)(Wk:∀(x:Str)(v:Int),gs.lookup x=some v->∃t,mg x=some (.int v t))(RM:∀(i:Nat)(x:Str)(n:Nat),fs[i]?=some (x,n)->∃f fd ps,dE P w K mg base (ql P w) k f fd ps (yF K n (G i))/\mg x=some (.ref f)/\PySem.W.keepIn K (.ref f)=true/\Binds K fd ps []) (RO:∀(x:Str)(a:Addr)(f:Str),xs.lookup x=some (a,f)->∃D fI fd sf oI j,j+1<=k/\qm K a D fI f/\K.lookup fI=some oI/\oI.cls=.type "function" /\ dE P w K mg base FO j fI fd [sf,f] (HX K a D fI f)/\Binds K fd [sf,f] []/\mg x=some (.ref a)):dE P w K mg base (ql P w) (k+1) f fd ps (yF K n (ah G N.length body)):=by
 have nj:ps.length<=N.length:=by have:=oq List.length Sc.pre;rw[iI]at this;omega
 obtain⟨oc,od,kV,doc,pm,an,ki,ct,Ci,rfl,lk,yz⟩:=F.ex;refine zE lk yz Sc (λvs H Q E h=>?_) λA outer s H vs Q E hr sP=>?_
 ·obtain⟨ads,M,ds,m,r,hl,_⟩:=h;rw[<- r.len,hl,hn]
 ·letI:EX:=tV E
  have gs:A_ k (oS (ql P w) P w K mg base N qual (aF st) f ki A outer s H E) ⟨N,(aF st).names,fs,gs,xs⟩ G:=by
   refine⟨⟨rfl,hr,rfl,Sc.nd,λx k e=>?_,λ_ _=>rfl,RS,Wk,RM,⟨E,pk.pass,λh=>h⟩⟩,?_,pk.own,⟨E,pk,λh=>h⟩,RO⟩
   ·have e:(aF st).names.lookup x=some k:=e
    cases k with
    | «local»=>exact e
    | cell=>exact e
    | free=>exact absurd rfl (Sc.zD _ (kU e))
    | globalExplicit=>exact True.intro
    | globalImplicit=>exact e
   ·show(if (aF st).kind.isAnnotationScope then ScopeKind.function else (aF st).kind)=_;rw[Sc.kind];rfl
  refine⟨_,rY body _ _ (bZ st) gs hb,?_⟩;obtain⟨ads,M,ds,m,r,hl,q⟩:=sP
  have aY:(fR N.length ds).length=N.length:=by
   unfold fR;rw[fB,aE,GB];omega
  refine⟨ads,M,fR N.length ds,⟨m,?_,?_⟩,?_⟩
  ·unfold fR L2.start;rw[<- r.len];exact Ba r _
  ·rw[aY];unfold L2.start;rw[fB,aE,GB,<- r.len];omega
  ·unfold ah at q
   cases hq:cB G body (fR N.length ds) M with
   | nx ρ M1=>rw[hq]at q;exact λcI H' aq g s'=>q .aJ H' aq g s'.mem (show RD K aq H' .aJ .aJ from jN)
   | rt w M1=>rw[hq]at q;exact q
   | bk _ _=>rw[hq]at q;exact q.elim
   | ct _ _=>rw[hq]at q;exact q.elim
   | er x M1=>rw[hq]at q;exact q
   | af=>rw[hq]at q;exact q.elim
noncomputable def cw(l:List (List D->ag->bJ W)):bc:=λi ds M=>match l[i]? with
 | some f=>f ds M
 | none=>.af
theorem Jb{K:Frag}{h:Heap}{mg:Str->Option Value}{gs:List (Str×Int)}(X:K.In h)(G:h.Ns mainGlobals mg)(z:gs.all (λp=>match PySem.W.nsIn K mainGlobals p.1 with | some (some (.int v _))=>v==p.2 | _=>false)=true):∀(x:Str)(v:Int),gs.lookup x=some v->∃t,mg x=some (.int v t):=by
 intro x v e;have q:=s_.mp z (x,v) (kU e);dsimp only at q;split at q
 ·rename_i w t e2
  obtain rfl:=eq_of_beq q;exact⟨t,fY X G e2⟩
 ·exact absurd q a6
section
variable {P:Program} {w:World} {K:Frag} {mg:Str->Option Value} {base h:Heap} {k k2:Nat} {x:Str} {n:Nat} {fs:List (Str×Nat)} {Fs:List (List D->ag->bJ W)} {F:List D->ag->bJ W} {gs:List (Str×Int)}
structure Is (P:Program) (w:World) (K:Frag) (mg:Str->Option Value) (base:Heap) (k:Nat) (x:Str) (n:Nat) (F:List D->ag->bJ W):Prop where
 is:∃f fd ps,dE P w K mg base (ql P w) k f fd ps (yF K n F)/\mg x=some (.ref f)/\PySem.W.keepIn K (.ref f)=true/\Binds K fd ps []
theorem Is.mono(h:Is P w K mg base k x n F)(hk:k<=k2):Is P w K mg base k2 x n F:=by
 obtain⟨f,fd,ps,a,b⟩:=h.is;exact⟨f,fd,ps,a.mono hk,b⟩
noncomputable def All(P:Program)(w:World)(K:Frag)(mg:Str->Option Value)(base:Heap)(k:Nat)(fs:List (Str×Nat))(Fs:List (List D->ag->bJ W)):Prop:=fs.length=Fs.length/\∀(i:Nat)(x:Str)(n:Nat),fs[i]?=some (x,n)->∃F,Fs[i]?=some F/\Is P w K mg base k x n F
theorem All.nil:All P w K mg base k [] []:=⟨rfl,λi x n e=>by simp at e⟩
theorem All.snoc(h:All P w K mg base k fs Fs)(g:Is P w K mg base (k+1) x n F):All P w K mg base (k+1) (fs++[(x,n)]) (Fs++[F]):=by
 obtain⟨hl,h⟩:=h;refine⟨by rw[fB,fB,hl];rfl,λi y m e=>?_⟩;by_cases hi:i<fs.length
 ·rw[jq hi]at e;obtain⟨F,a,b⟩:=h i y m e;exact⟨F,by rw[jq ∅];exact a,b.mono (Nat.le_succ _)⟩
 ·have:i=fs.length:=by
   have:=(bV.mp e).1;simp at this;omega
  subst this;simp at e;obtain⟨rfl,rfl⟩:=e;exact⟨F,by rw[hl];simp,g⟩
theorem All.fns(h:All P w K mg base k fs Fs):∀(i:Nat)(x:Str)(n:Nat),fs[i]?=some (x,n)->∃f fd ps,dE P w K mg base (ql P w) k f fd ps (yF K n (cw Fs i))/\mg x=some (.ref f)/\PySem.W.keepIn K (.ref f)=true/\Binds K fd ps []:=λi y m e=>by
 obtain⟨F,a,b⟩:=h.2 i y m e;have:cw Fs i=F:=by funext ds M;unfold cw;rw[a]
 rw[this];exact b.is
noncomputable def Nv(N ps:List Str)(sc:Scope):Bool:=(match sc.kind with | .function=>true | _=>false) && !sc.isCoroutine && !sc.isGenerator&&decide N.Nodup&&decide (N.take ps.length=ps)&&ps.all (λx=>match sc.names.lookup x with | some .local=>true | some .cell=>true | _=>false)&&sc.names.all λy=>match y.2 with | .free=>false | _=>true
theorem pM{N ps:List Str}{sc:Scope}(h:Nv N ps sc=true):fF N ps sc:=by
 unfold Nv at h;simp only[aK,s_,om,ic]at h;obtain⟨⟨⟨⟨⟨⟨h1,h2⟩,h3⟩,h4⟩,h5⟩,h6⟩,h7⟩:=h;refine⟨?_,h2,h3,h4,h5,λx hx=>?_,λy hy e=>?_⟩
 ·split at h1
  ·assumption
  ·cases h1
 ·have:=h6 x hx;split at this
  ·exact .inl (by assumption)
  ·exact .inr (by assumption)
  ·cases this
 ·have:=h7 y hy;rw[e]at this;cases this
noncomputable def Pu:Nat->(List Value->Prop)->Prop
 | 0,P=>P []
 | k+1,P=>∀a,Pu k λus=>P (a::us)
theorem F4:∀{k:Nat}{P:List Value->Prop},Pu k P->∀us,us.length=k->P us:=by
 intro k
 induction k with
 | zero=>intro P h us e;rw[List.length_eq_zero_iff.mp e];exact h
 | succ k ih =>
  intro P h us e
  cases us with
  | nil=>cases e
  | cons a us=>exact ih (P:=λus=>P (a::us)) (h a) us (Nat.succ.inj e)
structure Cw (K:Frag) (h:Heap) (mg:Str->Option Value) (gs:List (Str×Int)):Prop where
 X:K.In h
 G:h.Ns mainGlobals mg
 b:∀b∈dr,mg b=none
 g:∀(x:Str)(v:Int),gs.lookup x=some v->∃t,mg x=some (.int v t)
def TV(P:Program)(w:World)(K:Frag)(mg:Str->Option Value)(base:Heap)(xs:List (Str×Addr×Str)):Prop:=∀(x:Str)(a:Addr)(f:Str),xs.lookup x=some (a,f)->∃D fI fd sf oI,qm K a D fI f/\K.lookup fI=some oI/\oI.cls=.type "function" /\ dE P w K mg base FO 1 fI fd [sf,f] (HX K a D fI f)/\Binds K fd [sf,f] []/\mg x=some (.ref a)
theorem Bc(x:Str)(a:Addr)(st:Stmt)(N ps:List Str)(b:List S)(m c:Value)(W:Cw K h mg gs)(A:All P w K mg base k fs Fs)(lk:K.lookup a=some (fo (fq x st m c)))(hc:PySem.W.codeIn K c x=true)(hk:PySem.W.keepIn K (.ref a)=true)(hb:(Nv N ps (aF st)&&h_ ⟨N,(aF st).names,fs,gs,[]⟩ b (bZ st))=true):dE P w K mg base (ql P w) (k+1) a (fq x st m c) ps (yF K ps.length (ah (cw Fs) N.length b)) :=
 Bb (pb lk hc hk) (pM ((aK _ _).mp hb).1) rfl ((aK _ _).mp hb).2 W.b W.g A.fns λ_ _ _ e=>nomatch e
theorem nx(x:Str)(a:Addr)(st:Stmt)(N ps:List Str)(b:List S)(m c:Value)(W:Cw K h mg gs)(A:All P w K mg base k fs Fs)(ha:PySem.W.nsIn K mainGlobals x=some (some (.ref a)):=by (kernel_rfl))(lk:K.lookup a=some (fo (fq x st m c)):=by (kernel_rfl))(hc:PySem.W.codeIn K c x=true:=by (kernel_rfl))(hk:PySem.W.keepIn K (.ref a)=true:=by (kernel_rfl))(hb:(Nv N ps (aF st)&&h_ ⟨N,(aF st).names,fs,gs,[]⟩ b (bZ st))=true:=by (decide +kernel))(bd:Pu ps.length λus=>bindArgs (fq x st m c) ⟨us,[]⟩=pure (ps.zip us):=by (repeat intro _);rfl):All P w K mg base (k+1) (fs++[(x,ps.length)]) (Fs++[ah (cw Fs) N.length b]) :=
 A.snoc ⟨a,_,ps,Bc x a st N ps b m c W A lk hc hk hb,fY W.X W.G ha,hk,.all (F4 bd)⟩
theorem Wl{xs:List (Str×Addr×Str)}(x:Str)(a:Addr)(st:Stmt)(N ps:List Str)(b:List S)(m c:Value)(W:Cw K h mg gs)(A:All P w K mg base k fs Fs)(X:TV P w K mg base xs)(h2:2<=k)(ha:PySem.W.nsIn K mainGlobals x=some (some (.ref a)):=by (kernel_rfl))(lk:K.lookup a=some (fo (fq x st m c)):=by (kernel_rfl))(hc:PySem.W.codeIn K c x=true:=by (kernel_rfl))(hk:PySem.W.keepIn K (.ref a)=true:=by (kernel_rfl))(hb:(Nv N ps (aF st)&&h_ ⟨N,(aF st).names,fs,gs,xs⟩ b (bZ st))=true:=by (decide +kernel))(bd:Pu ps.length λus=>bindArgs (fq x st m c) ⟨us,[]⟩=pure (ps.zip us):=by (repeat intro _);rfl):All P w K mg base (k+1) (fs++[(x,ps.length)]) (Fs++[ah (cw Fs) N.length b]) :=
 A.snoc ⟨a,_,ps,Bb (pb lk hc hk) (pM ((aK _ _).mp hb).1) rfl ((aK _ _).mp hb).2 W.b W.g A.fns (λx a f e=>by
  obtain⟨D,fI,fd,sf,oI,h1,h3,h4,h5,h6,h7⟩:=X x a f e;exact⟨D,fI,fd,sf,oI,1,h2,h1,h3,h4,h5,h6,h7⟩),fY W.X W.G ha,hk,.all (F4 bd)⟩
end
class Er where
 er:vG->ag->Prop
@[reducible] def jR:Er:=⟨λ_ _=>False⟩
instance (priority:=low) Wm:Er:=jR
section
variable [er:Er]
@[irreducible] noncomputable def aG{α:Type}(o:bJ α)(P:α->ag->Prop):Prop:=match o with
 | .ok a M=>P a M
 | .err x M=>Er.er x M
 | .af=>False
theorem aN{α:Type}{a:α}{M:ag}{P:α->ag->Prop}:aG (.ok a M) P=P a M:=by unfold aG;exact propext oy
theorem aw{α:Type}{P:α->ag->Prop}:aG .af P=False:=by unfold aG;exact propext oy
theorem eB{α:Type}{P:α->ag->Prop}{x:vG}{M:ag}:aG (.err x M) P=Er.er x M:=by unfold aG;exact propext oy
theorem az{α β:Type}{o:bJ α}{f:α->ag->bJ β}{P:β->ag->Prop}:aG (o.bind f) P=aG o λa M=>aG (f a M) P:=by
 cases o with
 | ok a M=>rw[aN];rfl
 | err _ _=>rw[eB];exact eB
 | af=>rw[aw];exact aw
theorem aG.imp{α:Type}{o:bJ α}{P Q:α->ag->Prop}(h:aG o P)(k:∀a M,P a M->Q a M):aG o Q:=by
 cases o with
 | ok a M=>rw[aN]at h⊢;exact k a M h
 | err _ _=>rw[eB]at h⊢;exact h
 | af=>rw[aw]at h;exact h.elim
theorem Bd{α:Type}{o:bJ α}{a:α}{M:ag}{P:α->ag->Prop}(e:o=.ok a M)(h:P a M):aG o P:=by rw[e,aN];exact h
theorem gM{α:Type}{c:Prop}[Decidable c]{o:bJ α}{P:α->ag->Prop}:aG (if c then o else .af) P=(c/\aG o P):=by
 by_cases h:c
 ·rw[aS h];exact propext ⟨λq=>⟨h,q⟩,λq=>q.2⟩
 ·rw[a8 h,aw];exact propext ⟨λq=>q.elim,λq=>absurd q.1 h⟩
omit er in
theorem pN{α:Type}{o:bJ α}{P:α->ag->Prop}(h:@aG jR α o P):∃a M,o=.ok a M/\P a M:=by
 cases o with
 | ok a M=>rw[@aN jR]at h;exact⟨a,M,rfl,h⟩
 | err _ _=>rw[@eB jR]at h;exact h.elim
 | af=>rw[@aw jR]at h;exact h.elim
theorem Be{α β:Type}{o:bJ α}{f:α->ag->bJ β}{P:β->ag->Prop}:aG (o.b0 f) P=@aG jR α o λa M=>aG (f a M) P:=by
 cases o with
 | ok a M=>rw[@aN jR];rfl
 | err _ _=>rw[@eB jR];exact aw
 | af=>rw[@aw jR];exact aw
@[irreducible] noncomputable def eY(o:bb)(nx:En->ag->Prop)(rt:W->ag->Prop)(bk ct:En->ag->Prop):Prop:=match o with
 | .nx ρ M=>nx ρ M
 | .rt w M=>rt w M
 | .bk ρ M=>bk ρ M
 | .ct ρ M=>ct ρ M
 | .er x M=>Er.er x M
 | .af=>False
section
variable {nx:En->ag->Prop} {rt:W->ag->Prop} {bk ct:En->ag->Prop}
theorem dJ{ρ:En}{M:ag}:eY (.nx ρ M) nx rt bk ct=nx ρ M:=by unfold eY;exact propext oy
theorem iB{w:W}{M:ag}:eY (.rt w M) nx rt bk ct=rt w M:=by unfold eY;exact propext oy
theorem lX{ρ:En}{M:ag}:eY (.bk ρ M) nx rt bk ct=bk ρ M:=by unfold eY;exact propext oy
theorem lY{ρ:En}{M:ag}:eY (.ct ρ M) nx rt bk ct=ct ρ M:=by unfold eY;exact propext oy
theorem iC{x:vG}{M:ag}:eY (.er x M) nx rt bk ct=Er.er x M:=by unfold eY;exact propext oy
theorem dM:eY .af nx rt bk ct=False:=by unfold eY;exact propext oy
theorem dS{α:Type}{o:bJ α}{f:α->ag->bb}:eY (bb.fQ o f) nx rt bk ct=aG o λa M=>eY (f a M) nx rt bk ct:=by
 cases o with
 | ok a M=>rw[aN];rfl
 | err _ _=>rw[eB];exact iC
 | af=>rw[aw];exact dM
theorem EA{o:bb}{f:En->ag->bb}:eY (o.seq f) nx rt bk ct=eY o (λρ M=>eY (f ρ M) nx rt bk ct) rt bk ct:=by
 cases o with
 | nx ρ M=>rw[dJ];rfl
 | rt ρ M=>rw[iB];exact iB
 | bk ρ M=>rw[lX];exact lX
 | ct ρ M=>rw[lY];exact lY
 | er ρ M=>rw[iC];exact iC
 | af=>rw[dM];exact dM
end
theorem EB{G:bc}{n:Nat}{b:List S}{ds:List D}{M:ag}{P:W->ag->Prop}:aG (ah G n b ds M) P=eY (cB G b (fR n ds) M) (λ_ M=>P (.d .aJ) M) P (λ_ _=>False) (λ_ _=>False):=by
 unfold ah
 cases cB G b (fR n ds) M with
 | nx ρ M=>rw[dJ];exact aN
 | rt ρ M=>rw[iB];exact aN
 | bk ρ M=>rw[lX];exact aw
 | ct ρ M=>rw[lY];exact aw
 | er ρ M=>rw[iC];exact eB
 | af=>rw[dM];exact aw
section
variable {G:bc} {ρ:En} {M:ag} {P:W->ag->Prop}
theorem Nw{d:D}:aG (ev G (.bf d) ρ M) P=P (.d d) M:=by simp only[HZ,aN]
theorem Nx{op:Ck}{a b:C}:aG (ev G (.bin op a b) ρ M) P=aG (ev G a ρ M) λx M=>aG (ev G b ρ M) λy M=>aG (pq op x y M) P:=by simp only[H_,az]
theorem Ny{op:xP}{a b:C}:aG (ev G (.cmp op a b) ρ M) P=aG (ev G a ρ M) λx M=>aG (ev G b ρ M) λy M=>aG (bg op x y M) λr M=>P (.d (.bl r)) M:=by simp only[Al,az,aN]
theorem Nz{c:dZ}{a b:C}:aG (ev G (.ite c a b) ρ M) P=aG (dy G c ρ M) λr M=>if r then aG (ev G a ρ M) P else aG (ev G b ρ M) P:=by
 simp only[Am,az]
 congr 1;funext r M
 cases r<;>rfl
theorem NA{cs:List C}:aG (ev G (.tup cs) ρ M) P=aG (bx G cs ρ M) λds M=>ds.length<=sizeLine/\P (.d (.tup ds)) M:=by
 simp only[An,az,gM,aN]
theorem NB{cs:List C}:aG (ev G (.lst cs) ρ M) P=aG (bx G cs ρ M) λds M=>ds.length<=sizeLine/\P (.lv ds) M:=by
 simp only[Ao,az,gM,aN]
theorem k_sub{a b:C}:aG (ev G (.sub a b) ρ M) P=aG (ev G a ρ M) λx M=>aG (ev G b ρ M) λy M=>aG (cW x y M) P:=by simp only[Ib,az]
theorem NC{a:C}{lo hi:Option C}:aG (ev G (.sQ a lo hi) ρ M) P=aG (ev G a ρ M) λx M=>aG (qt G lo ρ M) λl M=>aG (qt G hi ρ M) λh M=>aG (lB x l h M) P:=by simp only[Ic,az]
theorem ND{a:C}{k:Int}:aG (ev G (.yE a k) ρ M) P=aG (ev G a ρ M) λx M=>aG (jI x k M) P:=by simp only[Ie,az]
theorem RT{P:Option Int->ag->Prop}:aG (qt G none ρ M) P=P none M:=by simp only[lG,lH,aN]
theorem Jc{f:Nat}{cs:List C}:aG (ev G (.call f cs) ρ M) P=aG (bx G cs ρ M) λds M=>aG (G f ds M) P:=by simp only[vK,az]
theorem RU{b:Bi}{cs:List C}:aG (ev G (.bi b cs) ρ M) P=aG (cX G cs ρ M) λws M=>aG (kA b ws M) P:=by simp only[Ap,az]
theorem RV{m:Me}{o:C}{cs:List C}:aG (ev G (.me m o cs) ρ M) P=aG (ev G o ρ M) λx M=>(ff M x).isSome=true/\aG (bx G cs ρ M) λds M=>aG (tZ m x ds M) P:=by
 simp only[Aq,az,gM]
theorem NF{ks:List Str}{cs:List C}:aG (ev G (.xI ks cs) ρ M) P=aG (bx G cs ρ M) λds M=>ks.length=ds.length/\P (.d (.aD M.length)) (M++[.dK ((ks.map Sum.inr).zip ds)]):=by
 simp only[t7,az,gM,aN]
theorem Jd{k:SK}{cV:List C}{tg:List Nat}{cond:Option dZ}{elt:C}{cD:List (Option Nat)}:aG (ev G (.comp k cV tg cond elt cD) ρ M) P=aG (cX G cV ρ M) λws M=>aG (lE k ws M) λit M=>aG (ba (λτ M=>bB G cond τ M) (λτ M=>(ev G elt τ M).bind own) it tg (dj M it) 0 (ef cD ρ) M []) P:=by simp only[pv,az]
theorem RX{P:List D->ag->Prop}:aG (bx G [] ρ M) P=P [] M:=by simp only[fm,eC,aN]
theorem RY{c:C}{cs:List C}{P:List D->ag->Prop}:aG (bx G (c::cs) ρ M) P=aG (ev G c ρ M) λw M=>aG (own w M) λd M=>aG (bx G cs ρ M) λds M=>P (d::ds) M:=by simp only[fm,eC,az,aN]
theorem RZ{P:List W->ag->Prop}:aG (cX G [] ρ M) P=P [] M:=by simp only[iV,gI,aN]
theorem R0{c:C}{cs:List C}{P:List W->ag->Prop}:aG (cX G (c::cs) ρ M) P=aG (ev G c ρ M) λw M=>aG (cX G cs ρ M) λds M=>P (w::ds) M:=by simp only[iV,gI,az,aN]
theorem NG{c:C}{P:Bool->ag->Prop}:aG (dy G (.val c) ρ M) P=aG (ev G c ρ M) λw M=>∃r,mU M w=some r/\P r M:=by
 simp only[pw,az]
 congr 1;funext w M
 cases h:mU M w with
 | none=>simp only[reduceCtorEq,false_and,exists_false,aw]
 | some r=>simp only[qB,exists_eq_left',aN]
theorem NH{a:dZ}{P:Bool->ag->Prop}:aG (dy G (.neg a) ρ M) P=aG (dy G a ρ M) λr M=>P (!r) M:=by simp only[D0,az,aN]
theorem Je{a:dZ}{P:Bool->ag->Prop}:aG (eU G [a] ρ M) P=aG (dy G a ρ M) P:=by simp only[jL,iq,az,aN]
theorem Jf{a:dZ}{P:Bool->ag->Prop}:aG (eV G [a] ρ M) P=aG (dy G a ρ M) P:=by simp only[jM,ir,az,aN]
theorem Jg{a b:dZ}{cs:List dZ}{P:Bool->ag->Prop}:aG (eU G (a::b::cs) ρ M) P=aG (dy G a ρ M) λr M=>if r then aG (eU G (b::cs) ρ M) P else P false M:=by
 rw[iq];simp only[az]
 congr 1;funext r M
 cases r with
 | true=>rfl
 | false=>exact aN
theorem Jh{a b:dZ}{cs:List dZ}{P:Bool->ag->Prop}:aG (eV G (a::b::cs) ρ M) P=aG (dy G a ρ M) λr M=>if r then P true M else aG (eV G (b::cs) ρ M) P:=by
 rw[ir];simp only[az]
 congr 1;funext r M
 cases r with
 | true=>exact aN
 | false=>rfl
theorem Ji{ts:List dZ}{P:Bool->ag->Prop}:aG (dy G (.di ts) ρ M) P=aG (eU G ts ρ M) P:=by simp only[Ar]
theorem Jj{ts:List dZ}{P:Bool->ag->Prop}:aG (dy G (.f_ ts) ρ M) P=aG (eV G ts ρ M) P:=by simp only[As]
end
section
variable {G:bc} {ρ:En} {M:ag} {nx:En->ag->Prop} {rt:W->ag->Prop} {bk ct:En->ag->Prop}
theorem Jk{i:Nat}{c:C}:eY (iz G (.jc i c) ρ M) nx rt bk ct=aG (ev G c ρ M) λw M=>aG (own w M) λd M=>nx (ρ.set i (some d)) M:=by simp only[rT,dS,az,dJ]
theorem NI{o i v:C}:eY (iz G (.put o i v) ρ M) nx rt bk ct=aG (ev G v ρ M) λw M=>aG (own w M) λd M=>aG (ev G o ρ M) λx M=>aG (ev G i ρ M) λy M=>aG (gz x y d M) λ_ M=>nx ρ M:=by simp only[v5,dS,az,dJ]
theorem Jl{c:C}:eY (iz G (.expr c) ρ M) nx rt bk ct=aG (ev G c ρ M) λ_ M=>nx ρ M:=by simp only[rV,dS,dJ]
theorem NJ{c:C}:eY (iz G (.ret c) ρ M) nx rt bk ct=aG (ev G c ρ M) rt:=by simp only[v7,dS,iB]
theorem R1{t:dZ}{a b:List S}:eY (iz G (.iff t a b) ρ M) nx rt bk ct=aG (dy G t ρ M) λr M=>if r then eY (cB G a ρ M) nx rt bk ct else eY (cB G b ρ M) nx rt bk ct:=by
 simp only[v8,dS]
 congr 1;funext r M
 cases r<;>rfl
theorem NK{tg:List Nat}{k:SK}{cV:List C}{b:List S}:eY (iz G (.dI tg k cV b) ρ M) nx rt bk ct=aG (cX G cV ρ M) λws M=>aG (lE k ws M) λit M=>eY (du (λρ M=>cB G b ρ M) it tg (dj M it) 0 ρ M) nx rt bk ct:=by
 simp only[rW,dS,dA,az]
theorem NL:eY (cB G [] ρ M) nx rt bk ct=nx ρ M:=by simp only[rX,nO,dJ]
theorem Jm{s:S}{ss:List S}:eY (cB G (s::ss) ρ M) nx rt bk ct=eY (iz G s ρ M) (λρ M=>eY (cB G ss ρ M) nx rt bk ct) rt bk ct:=by simp only[rX,nO,EA]
end
theorem lZ{body:En->ag->bb}{it:It}{tg:List Nat}{ds:List D}{nx:En->ag->Prop}{rt:W->ag->Prop}{bk ct:En->ag->Prop}(I:Nat->En->ag->Prop)(hd:∀i ρ M,I i ρ M->i<=ds.length->itemAt M i it=some ds[i]?)(hs:∀i ρ M d,I i ρ M->ds[i]?=some d->∃d4,bO tg d ρ=some d4/\eY (body d4 M) (I (i+1)) rt nx (I (i+1)))(he:∀ρ M,I ds.length ρ M->nx ρ M):∀(f i:Nat)(ρ:En)(M:ag),I i ρ M->i+f=ds.length->eY (du body it tg f i ρ M) nx rt bk ct
 | 0,i,ρ,M,h,e=>by
  unfold du;have:i=ds.length:=∅;subst this;rw[hd _ _ _ h (aL _),Cu (aL _)];dsimp only;rw[dJ];exact he _ _ h
 | f+1,i,ρ,M,h,e=>by
  unfold du;have hi:i<ds.length:=∅;rw[hd _ _ _ h (mO hi),cE hi];obtain⟨d4,e1,e2⟩:=hs i ρ M ds[i] h (cE hi);dsimp only;rw[e1];dsimp only
  cases q:body d4 M with
  | nx IY M2=>rw[q,dJ]at e2;exact lZ I hd hs he f (i+1) IY M2 e2 ∅
  | ct IY M2=>rw[q,lY]at e2;exact lZ I hd hs he f (i+1) IY M2 e2 ∅
  | bk IY M2=>rw[q,lX]at e2;dsimp only;rw[dJ];exact e2
  | rt w M2=>rw[q,iB]at e2;dsimp only;rw[iB];exact e2
  | er x M2=>rw[q,iC]at e2;dsimp only;rw[iC];exact e2
  | af=>rw[q,dM]at e2;exact e2.elim
theorem pO{cond:En->ag->bJ Bool}{elt:En->ag->bJ D}{it:It}{tg:List Nat}{ds:List D}{P:W->ag->Prop}(I:Nat->En->ag->List D->Prop)(hd:∀i ρ M acc,I i ρ M acc->i<=ds.length->itemAt M i it=some ds[i]?)(hs:∀i ρ M acc d,I i ρ M acc->ds[i]?=some d->acc.length<sizeLine/\∃d4,bO tg d ρ=some d4/\@aG jR _ (cond d4 M) λb M=>if b then @aG jR _ (elt d4 M) λx M=>I (i+1) d4 M (acc++[x]) else I (i+1) d4 M acc)(he:∀ρ M acc,I ds.length ρ M acc->P (.lv acc) M):∀(f i:Nat)(ρ:En)(M:ag)(acc:List D),I i ρ M acc->i+f=ds.length->aG (ba cond elt it tg f i ρ M acc) P
 | 0,i,ρ,M,acc,h,e=>by
  unfold ba;have:i=ds.length:=∅;subst this;rw[hd _ _ _ _ h (aL _),Cu (aL _)];dsimp only;rw[aN];exact he _ _ _ h
 | f+1,i,ρ,M,acc,h,e=>by
  unfold ba;have hi:i<ds.length:=∅;rw[hd _ _ _ _ h (mO hi),cE hi];obtain⟨hl,d4,e1,e2⟩:=hs i ρ M acc ds[i] h (cE hi);dsimp only;rw[e1];dsimp only;rw[aS hl,Be];refine @aG.imp jR _ _ _ _ e2 λb M2 q=>?_
  cases b with
  | true =>
   rw[aS rfl]at q⊢;rw[Be];exact @aG.imp jR _ _ _ _ q λx M3 q=>pO I hd hs he f (i+1) d4 M3 _ q ∅
  | false =>
   rw[a8 (by simp)]at q⊢;exact pO I hd hs he f (i+1) d4 M2 _ q ∅
end
section
variable [er:Er]
noncomputable def dU{α:Type}(o:bJ α)(P:α->ag->Prop):Prop:=match o with
 | .ok a M=>P a M
 | .err x M=>Er.er x M
 | .af=>False
theorem bG{α:Type}{o:bJ α}{P:α->ag->Prop}:aG o P=dU o P:=by
 cases o with
 | ok a M=>rw[aN];rfl
 | err _ _=>rw[eB];rfl
 | af=>rw[aw];rfl
noncomputable def yb(x:W)(A B:Prop):Prop:=match x with
 | .d (.bl true)=>A
 | .d (.bl false)=>B
 | _=>False
noncomputable def bK(b:Bool)(A B:Prop):Prop:=match b with
 | true=>A
 | false=>B
theorem v_{b:Bool}{A B:Prop}:bK b A B=if b=true then A else B:=by cases b<;>simp[bK]
noncomputable def EC(o:Option Bool)(P:Bool->Prop):Prop:=match o with
 | some r=>P r
 | none=>False
noncomputable def ED(o:Option (Option D))(P:D->Prop):Prop:=match o with
 | some (some d)=>P d
 | _=>False
noncomputable def F5(o:Option En)(P:En->Prop):Prop:=match o with
 | some ρ=>P ρ
 | none=>False
noncomputable def NM(w:W)(P:Int->Prop):Prop:=match w with
 | .d (.int i)=>P i
 | _=>False
def Bf:D->Bool
 | .aJ=>true
 | _=>false
theorem iE{i:Int}:SeqAt.shaped (.int i)=true:=by unfold SeqAt.shaped;rw[qz,qC];rfl
theorem NN{M:ag}{i j:Int}:bg .eq (.d (.int i)) (.d (.int j)) M=.ok (i==j) M:=by
 unfold bg;have h1:∀i,iH M (.d (.int i))=some (.int i):=λi=>by show cM M 30 (.int i)=_;unfold cM;rfl
 simp only[h1,iE,jv,dD,yW]
theorem NO{M:ag}{i j:Int}:bg .ne (.d (.int i)) (.d (.int j)) M=.ok (!(i==j)) M:=by
 unfold bg;have h1:∀i,iH M (.d (.int i))=some (.int i):=λi=>by show cM M 30 (.int i)=_;unfold cM;rfl
 simp only[h1,iE,jv,dD,yW]
def Jn(op:Ck)(x y:W)(M:ag)(P:W->ag->Prop):Prop:=match op,x,y with
 | .add,.d (.int i),.d (.int j)=>P (.d (.int (i+j))) M
 | .sub,.d (.int i),.d (.int j)=>P (.d (.int (i-j))) M
 | .mul,.d (.int i),.d (.int j)=>((-(2 ^ 64)<i/\i<2 ^ 64)\/(-(2 ^ 64)<j/\j<2 ^ 64))/\P (.d (.int (i*j))) M
 | .fdiv,.d (.int i),.d (.int j)=>(0<j/\j<1073741824)/\P (.d (.int (i / j))) M
 | .mod,.d (.int i),.d (.int j)=>0<j/\P (.d (.int (i % j))) M
 | .add,.d (.tup xs),.d (.tup ys)=>xs.length+ys.length<=sizeLine/\P (.d (.tup (xs++ys))) M
 | .add,.lv xs,.lv ys=>xs.length+ys.length<=sizeLine/\P (.lv (xs++ys)) M
 | op,x,y=>dU (pq op x y M) P
theorem l0{α:Type}{c:Prop}[Decidable c]{a:α}{M:ag}{P:α->ag->Prop}:dU (if c then .ok a M else .af) P=(c/\P a M):=by
 by_cases h:c
 ·rw[aS h];exact propext ⟨λq=>⟨h,q⟩,λq=>q.2⟩
 ·rw[a8 h];exact propext ⟨λq=>q.elim,λq=>absurd q.1 h⟩
theorem EE{op:Ck}{x y:W}{M:ag}{P:W->ag->Prop}:dU (pq op x y M) P=Jn op x y M P:=by
 rcases x with⟨_|_ | i | _ | xs | _|_⟩ | xs
 all_goals (first | (cases op<;>rfl) | skip)
 ·rcases y with⟨_|_ | j | _|_|_|_⟩|_<;>cases op<;>first | rfl | exact l0
 ·rcases y with⟨_|_|_|_ | ys | _|_⟩|_<;>cases op<;>first | rfl | exact l0
 ·rcases y with⟨_|_|_|_|_|_|_⟩ | ys<;>cases op<;>first | rfl | exact l0
def uq(op:xP)(x y:W)(M:ag)(P:Bool->ag->Prop):Prop:=match op,x,y with
 | .eq,.d (.int i),.d (.int j)=>P (i==j) M
 | .ne,.d (.int i),.d (.int j)=>P (!(i==j)) M
 | .qq,.d d,_=>P (Bf d) M
 | .fc,.d d,_=>P (!Bf d) M
 | op,x,y=>dU (bg op x y M) P
theorem pP{op:xP}{x y:W}{M:ag}{P:Bool->ag->Prop}:dU (bg op x y M) P=uq op x y M P:=by
 cases op
 case eq=>rcases x with⟨_|_ | i | _|_|_|_⟩|_<;>first | rfl | (rcases y with⟨_|_ | j | _|_|_|_⟩|_<;>first | (rw[NN];rfl) | rfl)
 case ne=>rcases x with⟨_|_ | i | _|_|_|_⟩|_<;>first | rfl | (rcases y with⟨_|_ | j | _|_|_|_⟩|_<;>first | (rw[NO];rfl) | rfl)
 case qq=>rcases x with⟨_|_|_|_|_|_|_⟩|_<;>rfl
 case fc=>rcases x with⟨_|_|_|_|_|_|_⟩|_<;>rfl
 all_goals (first | rfl | (rcases x with⟨_|_|_|_|_|_|_⟩|_<;>rfl))
def yc(k:SK)(ws:List W)(M:ag)(P:It->ag->Prop):Prop:=match k,ws with
 | .fJ,[.d (.int j)]=>(-(2 ^ 62)<=j/\j<2 ^ 62)/\P (.jU 0 j.toNat) M
 | .Ah,[.d (.int i),.d (.int j)]=>(-(2 ^ 62)<=i/\i<2 ^ 62/\-(2 ^ 62)<=j/\j<2 ^ 62)/\P (.jU i (j-i).toNat) M
 | k,ws=>dU (lE k ws M) P
theorem wa{k:SK}{ws:List W}{M:ag}{P:It->ag->Prop}:dU (lE k ws M) P=yc k ws M P:=by
 unfold yc;split<;>first | rfl | exact l0
def EF(tp:Bool)(ws:List W)(M:ag)(P:W->ag->Prop):Prop:=match tY ws with
 | some (i,j)=>((-(2 ^ 62)<=i/\i<2 ^ 62/\-(2 ^ 62)<=j/\j<2 ^ 62)/\(j-i).toNat<=2 ^ 24)/\P (Ai tp (MG i (j-i).toNat)) M
 | none=>False
theorem EG{tp:Bool}{ws:List W}{M:ag}{P:W->ag->Prop}:dU (DW tp ws M) P=EF tp ws M P:=by
 unfold DW EF
 cases tY ws with
 | none=>rfl
 | some ij=>exact l0
mutual
noncomputable def wE(G:bc):C->En->ag->(W->ag->Prop)->Prop
  | .fK i,ρ,M,P=>ED ρ[i]? λd=>P (.d d) M
  | .bf d,_,M,P=>P (.d d) M
  | .bin op a b,ρ,M,P=>wE G a ρ M λx M=>wE G b ρ M λy M=>Jn op x y M P
  | .cmp op a b,ρ,M,P=>wE G a ρ M λx M=>wE G b ρ M λy M=>uq op x y M λr M=>P (.d (.bl r)) M
  | .chain o1 o2 a b c, ρ, M, P => wE G a ρ M fun x M => wE G b ρ M fun y M => uq o1 x y M fun r M =>
      bK r (wE G c ρ M λz M=>uq o2 y z M λr M=>P (.d (.bl r)) M) (P (.d (.bl false)) M)
  | .di cs,ρ,M,P=>yd G cs ρ M P
  | .f_ cs,ρ,M,P=>KO G cs ρ M P
  | .neg a,ρ,M,P=>wE G a ρ M λx M=>yb x (P (.d (.bl false)) M) (P (.d (.bl true)) M)
  | .ite c a b,ρ,M,P=>wT G c ρ M λr M=>bK r (wE G a ρ M P) (wE G b ρ M P)
  | .tup cs,ρ,M,P=>yH G cs ρ M λds M=>ds.length<=sizeLine/\P (.d (.tup ds)) M
  | .lst cs,ρ,M,P=>yH G cs ρ M λds M=>ds.length<=sizeLine/\P (.lv ds) M
  | .sub a b,ρ,M,P=>wE G a ρ M λx M=>wE G b ρ M λy M=>dU (cW x y M) P
  | .sQ a lo hi,ρ,M,P=>wE G a ρ M λx M=>wO G lo ρ M λl M=>wO G hi ρ M λh M=>dU (lB x l h M) P
  | .yE a k,ρ,M,P=>wE G a ρ M λx M=>dU (jI x k M) P
  | .call f cs,ρ,M,P=>yH G cs ρ M λds M=>aG (G f ds M) P
  | .bi b cs,ρ,M,P=>ye G cs ρ M λws M=>dU (kA b ws M) P
  | .me m o cs,ρ,M,P=>wE G o ρ M λx M=>(ff M x).isSome=true/\yH G cs ρ M λds M=>dU (tZ m x ds M) P
  | .xI ks cs,ρ,M,P=>yH G cs ρ M λds M=>ks.length=ds.length/\P (.d (.aD M.length)) (M++[.dK ((ks.map Sum.inr).zip ds)])
  | .jU tp cs,ρ,M,P=>ye G cs ρ M λws M=>EF tp ws M P
  | .DU _ v,_,M,P=>P (.d (.int v)) M
  | .fL ng a,ρ,M,P=>wE G a ρ M λx M=>dU (vJ ng x M) P
  | .comp k cV tg cond elt cD,ρ,M,P=>ye G cV ρ M λws M=>yc k ws M λit M=>aG (ba (λτ M=>bB G cond τ M) (λτ M=>(ev G elt τ M).bind own) it tg (dj M it) 0 (ef cD ρ) M []) P
noncomputable def wT(G:bc):dZ->En->ag->(Bool->ag->Prop)->Prop
 | .di ts,ρ,M,P=>Jo G ts ρ M P
 | .f_ ts,ρ,M,P=>Jp G ts ρ M P
 | .neg a,ρ,M,P=>wT G a ρ M λr M=>P (!r) M
 | .val c,ρ,M,P=>wE G c ρ M λw M=>EC (mU M w) λr=>P r M
noncomputable def yd(G:bc):List C->En->ag->(W->ag->Prop)->Prop
 | [],_,_,_=>False
 | c::cs,ρ,M,P=>match cs with
  | []=>wE G c ρ M P
  | _::_=>wE G c ρ M λx M=>yb x (yd G cs ρ M P) (P (.d (.bl false)) M)
noncomputable def KO(G:bc):List C->En->ag->(W->ag->Prop)->Prop
 | [],_,_,_=>False
 | c::cs,ρ,M,P=>match cs with
  | []=>wE G c ρ M P
  | _::_=>wE G c ρ M λx M=>yb x (P (.d (.bl true)) M) (KO G cs ρ M P)
noncomputable def Jo(G:bc):List dZ->En->ag->(Bool->ag->Prop)->Prop
 | [],_,_,_=>False
 | c::cs,ρ,M,P=>match cs with
  | []=>wT G c ρ M P
  | _::_=>wT G c ρ M λr M=>bK r (Jo G cs ρ M P) (P false M)
noncomputable def Jp(G:bc):List dZ->En->ag->(Bool->ag->Prop)->Prop
 | [],_,_,_=>False
 | c::cs,ρ,M,P=>match cs with
  | []=>wT G c ρ M P
  | _::_=>wT G c ρ M λr M=>bK r (P true M) (Jp G cs ρ M P)
noncomputable def yH(G:bc):List C->En->ag->(List D->ag->Prop)->Prop
 | [],_,M,P=>P [] M
 | c::cs,ρ,M,P=>wE G c ρ M λw M=>dU (own w M) λd M=>yH G cs ρ M λds M=>P (d::ds) M
noncomputable def ye(G:bc):List C->En->ag->(List W->ag->Prop)->Prop
 | [],_,M,P=>P [] M
 | c::cs,ρ,M,P=>wE G c ρ M λw M=>ye G cs ρ M λws M=>P (w::ws) M
noncomputable def wO(G:bc):Option C->En->ag->(Option Int->ag->Prop)->Prop
 | none,_,M,P=>P none M
 | some c,ρ,M,P=>wE G c ρ M λw M=>NM w λi=>P (some i) M
end
section
variable {G:bc} {lo hi:Option C} {cond:Option dZ}
theorem Jq:wE G (.fK i) ρ M P=ED ρ[i]? λd=>P (.d d) M:=rfl
theorem Jr:wE G (.bin op a b) ρ M P=wE G a ρ M λx M=>wE G b ρ M λy M=>Jn op x y M P:=rfl
theorem Js:wE G (.cmp op a b) ρ M P=wE G a ρ M λx M=>wE G b ρ M λy M=>uq op x y M λr M=>P (.d (.bl r)) M:=rfl
theorem Bg : wE G (.chain o1 o2 a b c) ρ M P = (wE G a ρ M fun x M => wE G b ρ M fun y M => uq o1 x y M fun r M =>
      bK r (wE G c ρ M λz M=>uq o2 y z M λr M=>P (.d (.bl r)) M) (P (.d (.bl false)) M)):=rfl
theorem Jt:wE G (.neg a) ρ M P=wE G a ρ M λx M=>yb x (P (.d (.bl false)) M) (P (.d (.bl true)) M):=rfl
theorem Ju:wE G (.ite c a b) ρ M P=wT G c ρ M λr M=>bK r (wE G a ρ M P) (wE G b ρ M P):=rfl
theorem Jv:wE G (.sub a b) ρ M P=wE G a ρ M λx M=>wE G b ρ M λy M=>dU (cW x y M) P:=rfl
theorem Jw:wE G (.sQ a lo hi) ρ M P=wE G a ρ M λx M=>wO G lo ρ M λl M=>wO G hi ρ M λh M=>dU (lB x l h M) P:=rfl
theorem Jx:wE G (.yE a k) ρ M P=wE G a ρ M λx M=>dU (jI x k M) P:=rfl
theorem NP:wE G (.bi b cs) ρ M P=ye G cs ρ M λws M=>dU (kA b ws M) P:=rfl
theorem NQ:wE G (.me m o cs) ρ M P=wE G o ρ M λx M=>(ff M x).isSome=true/\yH G cs ρ M λds M=>dU (tZ m x ds M) P:=rfl
theorem Jy:wE G (.jU tp cs) ρ M P=ye G cs ρ M λws M=>EF tp ws M P:=rfl
theorem EH:wE G (.fL ng a) ρ M P=wE G a ρ M λx M=>dU (vJ ng x M) P:=rfl
theorem EI:wE G (.comp k cV tg cond elt cD) ρ M P=ye G cV ρ M λws M=>yc k ws M λit M=>aG (ba (λτ M=>bB G cond τ M) (λτ M=>(ev G elt τ M).bind own) it tg (dj M it) 0 (ef cD ρ) M []) P:=rfl
theorem Jz:wT G (.val c) ρ M P=wE G c ρ M λw M=>EC (mU M w) λr=>P r M:=rfl
theorem Bh:yd G [] u0 u1 u2=False:=rfl
theorem nR : yd G (c :: cs) ρ M P = (match cs with
    | []=>wE G c ρ M P
    | _::_=>wE G c ρ M λx M=>yb x (yd G cs ρ M P) (P (.d (.bl false)) M)):=rfl
theorem EJ:KO G [] u0 u1 u2=False:=rfl
theorem rZ : KO G (c :: cs) ρ M P = (match cs with
    | []=>wE G c ρ M P
    | _::_=>wE G c ρ M λx M=>yb x (P (.d (.bl true)) M) (KO G cs ρ M P)):=rfl
theorem EK:yH G [] u0 M P=P [] M:=rfl
theorem Bj:yH G (c::cs) ρ M P=wE G c ρ M λw M=>dU (own w M) λd M=>yH G cs ρ M λds M=>P (d::ds) M:=rfl
theorem EL:ye G [] u0 M P=P [] M:=rfl
theorem Bk:ye G (c::cs) ρ M P=wE G c ρ M λw M=>ye G cs ρ M λws M=>P (w::ws) M:=rfl
theorem EM:wO G none u0 M P=P none M:=rfl
theorem EN:wO G (some c) ρ M P=wE G c ρ M λw M=>NM w λi=>P (some i) M:=rfl
end
def jd(G:bc)(o:Option dZ)(ρ:En)(M:ag)(P:Bool->ag->Prop):Prop:=match o with
 | none=>P true M
 | some t=>wT G t ρ M P
mutual
theorem gW{G:bc}:∀(c:C)(ρ:En)(M:ag)(P:W->ag->Prop),aG (ev G c ρ M) P=wE G c ρ M P
 | .fK i,ρ,M,P=>by
  simp only[Ak,Jq];rcases ρ[i]? with _|_ | d
  ·exact aw
  ·exact aw
  ·exact aN
 | .bf d,ρ,M,P=>by rw[Nw];rfl
 | .bin op a b,ρ,M,P=>by rw[Nx,gW a];simp only[gW b,bG,Jr,EE]
 | .cmp op a b,ρ,M,P=>by rw[Ny,gW a];simp only[gW b,bG,Js,pP]
 | .chain o1 o2 a b c,ρ,M,P=>by
  simp only[rE,az,Bg];rw[gW a]
  congr 1;funext x M
  rw[gW b]
  congr 1;funext y M
  rw[bG,pP]
  congr 1;funext r M
  cases r with
  | true=>simp only[az,aN,dD,gW c];simp only[bG,pP];rfl
  | false=>simp[aN,bK]
 | .di cs,ρ,M,P=>by rw[DY,w_and cs];rfl
 | .f_ cs,ρ,M,P=>by rw[DZ,w_or cs];rfl
 | .neg a,ρ,M,P=>by
  simp only[Ia,az,Jt];rw[gW a]
  congr 1;funext x M
  rcases x with⟨_ | b | _|_|_|_|_⟩|_
  ·exact aw
  ·cases b<;>exact aN
  all_goals exact aw
 | .ite c a b,ρ,M,P=>by rw[Nz,F6 c];simp only[gW a,gW b,Ju,v_]
 | .tup cs,ρ,M,P=>by rw[NA,r_ cs];rfl
 | .lst cs,ρ,M,P=>by rw[NB,r_ cs];rfl
 | .sub a b,ρ,M,P=>by rw[k_sub,gW a];simp only[gW b,bG,Jv]
 | .sQ a lo hi,ρ,M,P=>by rw[NC,gW a];simp only[TX lo,TX hi,bG,Jw]
 | .yE a k,ρ,M,P=>by rw[ND,gW a];simp only[bG,Jx]
 | .call f cs,ρ,M,P=>by rw[Jc,r_ cs];rfl
 | .bi b cs,ρ,M,P=>by rw[RU,Bl cs];simp only[bG,NP]
 | .me m o cs,ρ,M,P=>by rw[RV,gW o];simp only[r_ cs,bG,NQ]
 | .xI ks cs,ρ,M,P=>by rw[NF,r_ cs];rfl
 | .jU tp cs,ρ,M,P=>by simp only[Ig,az,Jy];rw[Bl cs];simp only[bG,EG]
 | .DU x v,ρ,M,P=>by rw[Ih];exact aN
 | .fL ng a,ρ,M,P=>by simp only[vL,az,EH];rw[gW a];simp only[bG]
 | .comp k cV tg cond elt cD,ρ,M,P=>by rw[Jd,Bl cV];simp only[bG,EI,wa]
theorem F6{G:bc}:∀(c:dZ)(ρ:En)(M:ag)(P:Bool->ag->Prop),aG (dy G c ρ M) P=wT G c ρ M P
 | .di cs,ρ,M,P=>by rw[Ji,w_all cs];rfl
 | .f_ cs,ρ,M,P=>by rw[Jj,w_any cs];rfl
 | .neg a,ρ,M,P=>by rw[NH,F6 a];rfl
 | .val c,ρ,M,P=>by
  rw[NG,gW c];simp only[Jz]
  congr 1;funext w M
  cases mU M w with
  | none=>simp[EC]
  | some r=>simp[EC]
theorem w_and{G:bc}:∀(cs:List C)(ρ:En)(M:ag)(P:W->ag->Prop),aG (g_ G cs ρ M) P=yd G cs ρ M P
 | [],ρ,M,P=>by rw[jJ];exact aw
 | [c],ρ,M,P=>by simp only[jJ,ip,Bh,nR,az,aN,gW c]
 | c::b::cs,ρ,M,P=>by
  rw[ip,nR,az,gW c]
  congr 1;funext x M
  rw[<- w_and (b::cs)];rcases x with⟨_ | b | _|_|_|_|_⟩|_
  ·exact aw
  ·cases b with
   | true=>rfl
   | false=>exact aN
  all_goals exact aw
theorem w_or{G:bc}:∀(cs:List C)(ρ:En)(M:ag)(P:W->ag->Prop),aG (mV G cs ρ M) P=KO G cs ρ M P
 | [],ρ,M,P=>by rw[lF];exact aw
 | [c],ρ,M,P=>by simp only[lF,jK,EJ,rZ,az,aN,gW c]
 | c::b::cs,ρ,M,P=>by
  rw[jK,rZ,az,gW c]
  congr 1;funext x M
  rw[<- w_or (b::cs)];rcases x with⟨_ | b | _|_|_|_|_⟩|_
  ·exact aw
  ·cases b with
   | true=>exact aN
   | false=>rfl
  all_goals exact aw
theorem w_all{G:bc}:∀(cs:List dZ)(ρ:En)(M:ag)(P:Bool->ag->Prop),aG (eU G cs ρ M) P=Jo G cs ρ M P
 | [],ρ,M,P=>by rw[jL];exact aw
 | [c],ρ,M,P=>by rw[Je,F6 c];rfl
 | c::b::cs,ρ,M,P=>by rw[Jg,F6 c];simp only[w_all (b::cs),<- v_];rfl
theorem w_any{G:bc}:∀(cs:List dZ)(ρ:En)(M:ag)(P:Bool->ag->Prop),aG (eV G cs ρ M) P=Jp G cs ρ M P
 | [],ρ,M,P=>by rw[jM];exact aw
 | [c],ρ,M,P=>by rw[Jf,F6 c];rfl
 | c::b::cs,ρ,M,P=>by rw[Jh,F6 c];simp only[w_any (b::cs),<- v_];rfl
theorem r_{G:bc}:∀(cs:List C)(ρ:En)(M:ag)(P:List D->ag->Prop),aG (bx G cs ρ M) P=yH G cs ρ M P
 | [],ρ,M,P=>by rw[RX];rfl
 | c::cs,ρ,M,P=>by rw[RY,gW c];simp only[r_ cs,bG,EK,Bj]
theorem Bl{G:bc}:∀(cs:List C)(ρ:En)(M:ag)(P:List W->ag->Prop),aG (cX G cs ρ M) P=ye G cs ρ M P
 | [],ρ,M,P=>by rw[RZ];rfl
 | c::cs,ρ,M,P=>by rw[R0,gW c];simp only[Bl cs,bG,EL,Bk]
theorem TX{G:bc}:∀(o:Option C)(ρ:En)(M:ag)(P:Option Int->ag->Prop),aG (qt G o ρ M) P=wO G o ρ M P
 | none,ρ,M,P=>by rw[RT];rfl
 | some c,ρ,M,P=>by
  simp only[lG,lH,az,EM,EN];rw[gW c]
  congr 1;funext x M
  rcases x with⟨_|_ | z | _|_|_|_⟩|_
  ·exact aw
  ·exact aw
  ·exact aN
  all_goals exact aw
end
theorem w_cond{G:bc}{o:Option dZ}{ρ:En}{M:ag}{P:Bool->ag->Prop}:aG (bB G o ρ M) P=jd G o ρ M P:=by
 cases o with
 | none=>exact aN
 | some t=>exact F6 t ρ M P
theorem se{G:bc}{c:C}{ρ:En}{M:ag}{P:D->ag->Prop}:aG ((ev G c ρ M).bind own) P=wE G c ρ M λw M=>dU (own w M) P:=by
 rw[az,gW];simp only[bG]
mutual
noncomputable def wS(G:bc):S->En->ag->(En->ag->Prop)->(W->ag->Prop)->(En->ag->Prop)->(En->ag->Prop)->Prop
 | .asg tg c,ρ,M,nx,_,_,_=>wE G c ρ M λw M=>dU (own w M) λd M=>F5 (bO tg d ρ) λρ=>nx ρ M
 | .jc i c,ρ,M,nx,_,_,_=>wE G c ρ M λw M=>dU (own w M) λd M=>nx (ρ.set i (some d)) M
 | .put o i v,ρ,M,nx,_,_,_=>wE G v ρ M λw M=>dU (own w M) λd M=>wE G o ρ M λx M=>wE G i ρ M λy M=>dU (gz x y d M) λ_ M=>nx ρ M
 | .dput o i v,ρ,M,nx,_,_,_=>wE G v ρ M λw M=>dU (own w M) λd M=>wE G o ρ M λx M=>wE G i ρ M λy M=>dU (vI x y d M) λ_ M=>nx ρ M
 | .par i j a b,ρ,M,nx,_,_,_=>wE G a ρ M λw M=>dU (own w M) λx M=>wE G b ρ M λw M=>dU (own w M) λy M=>nx ((ρ.set i (some x)).set j (some y)) M
 | .expr c,ρ,M,nx,_,_,_=>wE G c ρ M λ_ M=>nx ρ M
 | .ret c,ρ,M,_,rt,_,_=>wE G c ρ M rt
 | .AY,_,M,_,rt,_,_=>rt (.d .aJ) M
 | .iff t a b,ρ,M,nx,rt,bk,ct=>wT G t ρ M λr M=>bK r (dB G a ρ M nx rt bk ct) (dB G b ρ M nx rt bk ct)
 | .dI tg k cV b,ρ,M,nx,rt,bk,ct=>ye G cV ρ M λws M=>yc k ws M λit M=>eY (du (λρ M=>cB G b ρ M) it tg (dj M it) 0 ρ M) nx rt bk ct
 | .IV n t b,ρ,M,nx,rt,bk,ct=>eY (x9 (λρ M=>dy G t ρ M) (λρ M=>cB G b ρ M) n ρ M) nx rt bk ct
 | .Cp a f c,ρ,M,_,_,_,_=>wE G c ρ M λw M=>dU (own w M) λd M=>Er.er ⟨a,[(f,d)]⟩ M
 | .never,_,_,_,_,_,_=>False
 | .pass,ρ,M,nx,_,_,_=>nx ρ M
 | .brk,ρ,M,_,_,bk,_=>bk ρ M
 | .cont,ρ,M,_,_,_,ct=>ct ρ M
noncomputable def dB(G:bc):List S->En->ag->(En->ag->Prop)->(W->ag->Prop)->(En->ag->Prop)->(En->ag->Prop)->Prop
 | [],ρ,M,nx,_,_,_=>nx ρ M
 | s::ss,ρ,M,nx,rt,bk,ct=>wS G s ρ M (λρ M=>dB G ss ρ M nx rt bk ct) rt bk ct
end
section
variable {G:bc} {lo hi:Option C} {cond:Option dZ} {nx bk ct:En->ag->Prop} {rt:W->ag->Prop}
theorem JA:wS G (.asg tg c) ρ M nx u0 u1 u2=wE G c ρ M λw M=>dU (own w M) λd M=>F5 (bO tg d ρ) λρ=>nx ρ M:=rfl
theorem EO:wS G (.jc i c) ρ M nx u0 u1 u2=wE G c ρ M λw M=>dU (own w M) λd M=>nx (ρ.set i (some d)) M:=rfl
theorem JB:wS G (.put o i v) ρ M nx u0 u1 u2=wE G v ρ M λw M=>dU (own w M) λd M=>wE G o ρ M λx M=>wE G i ρ M λy M=>dU (gz x y d M) λ_ M=>nx ρ M:=rfl
theorem ER:wS G (.dput o i v) ρ M nx u0 u1 u2=wE G v ρ M λw M=>dU (own w M) λd M=>wE G o ρ M λx M=>wE G i ρ M λy M=>dU (vI x y d M) λ_ M=>nx ρ M:=rfl
theorem JC:wS G (.par i j a b) ρ M nx u0 u1 u2=wE G a ρ M λw M=>dU (own w M) λx M=>wE G b ρ M λw M=>dU (own w M) λy M=>nx ((ρ.set i (some x)).set j (some y)) M:=rfl
theorem JD:wS G (.iff t a b) ρ M nx rt bk ct=wT G t ρ M λr M=>bK r (dB G a ρ M nx rt bk ct) (dB G b ρ M nx rt bk ct):=rfl
theorem ES:wS G (.dI tg k cV b) ρ M nx rt bk ct=ye G cV ρ M λws M=>yc k ws M λit M=>eY (du (λρ M=>cB G b ρ M) it tg (dj M it) 0 ρ M) nx rt bk ct:=rfl
theorem JE:wS G (.IV n t b) ρ M nx rt bk ct=eY (x9 (λρ M=>dy G t ρ M) (λρ M=>cB G b ρ M) n ρ M) nx rt bk ct:=rfl
theorem JF:wS G (.Cp a f c) ρ M u0 u1 u2 u3=wE G c ρ M λw M=>dU (own w M) λd M=>Er.er ⟨a,[(f,d)]⟩ M:=rfl
end
mutual
theorem Wn{G:bc}:∀(s:S)(ρ:En)(M:ag)(nx:En->ag->Prop)(rt:W->ag->Prop)(bk ct:En->ag->Prop),eY (iz G s ρ M) nx rt bk ct=wS G s ρ M nx rt bk ct
 | .asg tg c,ρ,M,nx,rt,bk,ct=>by
  simp only[vZ,dS,JA];rw[se]
  congr 1;funext w M
  congr 1;funext d M
  cases bO tg d ρ with
  | none=>exact dM
  | some ρ=>exact dJ
 | .jc i c,ρ,M,nx,rt,bk,ct=>by rw[Jk,gW c];simp only[bG,EO]
 | .put o i v,ρ,M,nx,rt,bk,ct=>by rw[NI,gW v];simp only[gW o,gW i,bG,JB]
 | .dput o i v,ρ,M,nx,rt,bk,ct=>by
  simp only[AZ,dS,ER];rw[se];simp only[gW o,gW i,bG,dJ]
 | .par i j a b,ρ,M,nx,rt,bk,ct=>by
  simp only[Es,dS];rw[r_];show wE G a ρ M (λw M=>dU (own w M) λx M=>wE G b ρ M λw M=>dU (own w M) λy M=>eY (.nx ((ρ.set i (some x)).set j (some y)) M) nx rt bk ct)=_;simp only[dJ,JC]
 | .expr c,ρ,M,nx,rt,bk,ct=>by rw[Jl,gW c];rfl
 | .ret c,ρ,M,nx,rt,bk,ct=>by rw[NJ,gW c];rfl
 | .AY,ρ,M,nx,rt,bk,ct=>iB
 | .iff t a b,ρ,M,nx,rt,bk,ct=>by rw[R1,F6 t];simp only[ur a,ur b,JD,v_]
 | .dI tg k cV b,ρ,M,nx,rt,bk,ct=>by rw[NK,Bl cV];simp only[bG,ES,wa]
 | .IV n t b,ρ,M,nx,rt,bk,ct=>by simp only[Et,JE]
 | .Cp a f c,ρ,M,nx,rt,bk,ct=>by
  simp only[v9,dS];rw[r_];show wE G c ρ M (λw M=>dU (own w M) λd M=>eY (.er ⟨a,[(f,d)]⟩ M) nx rt bk ct)=_;simp only[iC,JF]
 | .never,ρ,M,nx,rt,bk,ct=>dM
 | .pass,ρ,M,nx,rt,bk,ct=>dJ
 | .brk,ρ,M,nx,rt,bk,ct=>lX
 | .cont,ρ,M,nx,rt,bk,ct=>lY
theorem ur{G:bc}:∀(ss:List S)(ρ:En)(M:ag)(nx:En->ag->Prop)(rt:W->ag->Prop)(bk ct:En->ag->Prop),eY (cB G ss ρ M) nx rt bk ct=dB G ss ρ M nx rt bk ct
 | [],ρ,M,nx,rt,bk,ct=>NL
 | s::ss,ρ,M,nx,rt,bk,ct=>by rw[Jm,Wn s];simp only[ur ss];rfl
end
theorem bo{G:bc}{n:Nat}{b:List S}{ds:List D}{M:ag}{P:W->ag->Prop}:aG (ah G n b ds M) P=dB G b (fR n ds) M (λ_ M=>P (.d .aJ) M) P (λ_ _=>False) (λ_ _=>False):=by
 rw[EB,ur]
end
section
variable {X:Cx}
theorem wb:∀(l:List (Str×Pos×Addr)),(∀p∈l,Gl X p.1/\X.mg p.1=some (.ref p.2.2)/\(p.1==("__debug__" : Str))=false)->PA X (l.map λp=>.Name p.1 p.2.1) (λ_ H Q=>Q (l.map λp=>V.ref p.2.2) H)
 | [],_=>KG e7 λ_ _ _ q=>q
 | p::l,h=>by
  obtain⟨h1,h2,h3⟩:=h p (eg ..);exact KG (cC (oH (v:=.ref p.2.2) h1 h2 rfl h3) (wb l λq hq=>h q (dC _ hq)) rfl) λ_ _ _ q=>q
theorem ET{a b:Expr}{pos:Pos}{s t:TT}(ha:PT X a s)(hb:PT X b t):PT X (.BoolOp .And [a,b] pos) (Lz s t):=(zf ha (vj hb)).pt
theorem Bm {e C D fI dx : Addr} {f x n cx : Str} {i j : Nat} {k : Int} {fs : List (Str × V)} {l : List (Str × Pos × Addr)} {p1 p2 p3 p4 p5 p6 p7 p8 p9 q1 q2 q3 q4 q5 q6 q7 q8 q9 r1 r2 r3 r4 r5 r6 r7 v1 v2 v3 v4 : Pos} {j1 j2 j3 : Nat} {t1 t2 t3 t4 : Nat}
    (hN:X.N.Nodup) (hi:X.N[i]?=some x) (hj:X.N[j]?=some n) (JG:i≠j) (hx:X.env.scope.names.lookup x=some .local) (hn:X.env.scope.names.lookup n=some .local) (nb:((n==("__debug__" : Str))||(n==("__classdict__" : Str))||(cx==("__debug__" : Str)))=false)
    (gi:Gl X "isinstance") (mi:X.mg "isinstance" = none) (gv:Gl X "ValueError") (mv:X.mg "ValueError" = none) (gc:Gl X cx) (mc:X.mg cx=some (.ref C)) (hl:∀p∈l,Gl X p.1/\X.mg p.1=some (.ref p.2.2)/\(p.1==("__debug__" : Str))=false) (hs:l.length<=sizeLine)
    (xi:qm X.K C D fI f) (k1:PySem.W.kitOne X.K (.ref C) (.ref C)=some true) (k2:PySem.W.kitOne X.K (.ref C) (.type "ValueError")=some true) (k3:PySem.W.kitAny X.K (.ref C) ((l.map λp=>p.2.2).map Value.ref)=some false) :
    ∃th:TS,nh (X.hx e) [.Assign [.Name x p1] (.Tuple [.Constant (.str "odd") j1 p2] t1 p3) p4,
      .If (.BoolOp .And [.Call (.Name "isinstance" p5) [.Name n p6,.Name cx p7] [] p8,.Call (.Name "isinstance" p9) [.Name n q1,.Name "ValueError" q2] [] q3] q4) [.Assign [.Name x q5] (.Tuple [.Constant (.str "no") j2 q6,.Attribute (.Name n q7) f q8] t2 q9) r1] [] r2,
      .If (.Call (.Name "isinstance" r3) [.Name n r4,.Tuple (l.map λp=>.Name p.1 p.2.1) t3 r5] [] r6) [.Assign [.Name x v1] (.Tuple [.Constant (.str "odd") j3 v2] t4 v3) v4] [] r7] th /\
      ∀(Z:Ends)(σ:L2.St)(H:Hp),σ.length=X.N.length->H e=some (XO e C dx)->H dx=some (.xd fs)->fs.lookup f=some (V.int k) ->
        (∀a b c,H a=none->br H a (.tup [.str "odd"]) b=none->br (br H a (.tup [.str "odd"])) b (.tup [.str "no",.int k]) c=none ->
          Z.nx (((σ.set j (some (.ref e))).set i (some (.ref a))).set i (some (.ref b))) (br (br (br H a (.tup [.str "odd"])) b (.tup [.str "no",.int k])) c (.tup (l.map λp=>V.ref p.2.2)))) ->
        th Z (σ.set j (some (.ref e))) H:=by
  simp only[CA]at nb;obtain⟨⟨n1,n2⟩,n3⟩:=nb
  let Y:=X.hx e
  have vn:∀{p:Pos},PE Y (.Name n p) (G2 j):=gq (X:=Y) hj (.inl hn) n1 n2
  have odd:∀{p1 p2 p3 p4:Pos}{j1 t1:Nat},PS Y (.Assign [.Name x p1] (.Tuple [.Constant (.str "odd") j1 p2] t1 p3) p4) (C0 (LW (vm (tC (.str "odd")) Ht)) (vk i)) :=
    tu (X:=Y) hN hi (.inl hx) (lb (cC oF e7)) rfl (.inr hx)
  have qr:∀{a:Expr}{ta:TE}{p1 p2 p3:Pos},PE Y a ta->starEach [a] Y.env=[(false,eval a Y.env)]->PT Y (.Call (.Name "isinstance" p1) [.Name n p2,a] [] p3) (tB (O4 (MC Y.K) (vm (G2 j) (vm ta Ht)))):=λha hs =>
    G4 (fj (X:=Y) Af gi mi (nofun) (cC vn (cC ha e7 hs)) (by decide) (by decide) rfl (by rw[hs];rfl))
  refine⟨_,gr odd (gr (zl (ET (qr (oH (X:=Y) (v:=.ref C) gc mc rfl n3) rfl) (qr (vh (X:=Y) (v:=.ty "ValueError") (u:=.type "ValueError") gv mv (nofun) rfl) rfl)) (iM (tu (X:=Y) hN hi (.inl hx) (lb (cC oF (cC (MD vn rfl) e7))) rfl (.inr hx))) oJ) (iM (zl (qr (lb (wb l hl)) rfl) (iM odd) oJ))),?_⟩;intro Z σ H aY he hd hf q;have jl:j<σ.length:=by rw[aY];exact(bV.mp hj).1
  refine⟨(by show 1<=sizeLine;decide),λa na=>?_⟩;have e1:∀p,((σ.set j (some (V.ref e))).set i p)[j]?=some (some (.ref e)):=λp=>by rw[jr JG,kS jl]
  have ne1:e≠a:=cu he na;have FT:br H a (.tup [.str "odd"]) e=some (XO e C dx):=by rw[aj ne1];exact he
  have KP:br H a (.tup [.str "odd"]) dx=some (.xd fs):=by rw[aj (cu hd na)];exact hd
  refine⟨.ref e,e1 _,e,C,dx,D,fI,f,.ref C,true,rfl,FT,xi,.inl ⟨.ref C,rfl,k1⟩,true,rfl,?_⟩;refine Eq.mpr (aS rfl) ?_;refine⟨.ref e,e1 _,e,C,dx,D,fI,f,.ty "ValueError",true,rfl,FT,xi,.inl ⟨.type "ValueError",rfl,k2⟩,true,rfl,?_⟩;refine Eq.mpr (aS rfl) ?_;refine⟨.ref e,e1 _,e,C,D,fI,dx,fs,k,rfl,FT,xi,KP,hf,(by show 2<=sizeLine;decide),λb nb=>?_⟩;have e2:∀p r,(((σ.set j (some (V.ref e))).set i p).set i r)[j]?=some (some (.ref e)):=λp r=>by rw[jr JG];exact e1 p
  refine⟨.ref e,e2 _ _,(by rw[aE];exact hs),λc nc=>?_⟩;have Wo:e≠b:=cu FT nb;have Mx:br (br H a (.tup [.str "odd"])) b (.tup [.str "no",.int k]) e=some (XO e C dx):=by rw[aj Wo];exact FT
  have Wq:e≠c:=cu Mx nc;refine⟨e,C,dx,D,fI,f,.ref c,false,rfl,(by rw[aj Wq];exact Mx),xi,.inr ⟨c,(l.map λp:Str×Pos×Addr=>p.2.2),rfl,(by rw[aQ,List.map_map];rfl),k3⟩,false,rfl,?_⟩;exact Eq.mpr (a8 a6) (q a b c na nb nc)
def NR(H:Hp)(a b c:Addr)(k:Int)(l:List Addr):Hp:=br (br (br H a (.tup [.str "odd"])) b (.tup [.str "no",.int k])) c (.tup (l.map V.ref))
def Wr(C:Addr)(f:Str)(l:List Addr)(i j:Nat)(Z:Ends)(σ:L2.St):XK:=λcls dx H1=>∃d fs k,cls=.ref C/\dx=some d/\H1 d=some (.xd fs)/\fs.lookup f=some (V.int k) /\
 ∀e a b c,H1 a=none->br H1 a (.tup [.str "odd"]) b=none->br (br H1 a (.tup [.str "odd"])) b (.tup [.str "no",.int k]) c=none->Z.nx ((((σ.set j (some (.ref e))).set i (some (.ref a))).set i (some (.ref b))).set j none) (NR H1 a b c k l)
theorem JH {C D fI B : Addr} {f x n cx cb fn : Str} {i j kk : Nat} {l : List (Str × Pos × Addr)} {fa : Addr} {fd : FuncData} {ps : List Str} {sp : Sp} {a0 : Expr} {as : List Expr} {ta : TA} {p1 p2 p3 p4 p5 p6 p7 p8 p9 q1 q2 q3 q4 q5 q6 q7 q8 q9 r1 r2 r3 r4 r5 r6 r7 v1 v2 v3 v4 s1 s2 s3 s4 s5 s6 s7 : Pos} {j1 j2 j3 t1 t2 t3 t4 : Nat}
    (vd:X.stack=X.env::X.outer/\X.env.frame=some X.env.locals) (hN:X.N.Nodup) (hi:X.N[i]?=some x) (hj:X.N[j]?=some n) (JG:i≠j) (hx:X.env.scope.names.lookup x=some .local) (hn:X.env.scope.names.lookup n=some .local) (nb:((n==("__debug__" : Str))||(n==("__classdict__" : Str))||(cx==("__debug__" : Str)))=false)
    (gi:Gl X "isinstance") (mi:X.mg "isinstance" = none) (gv:Gl X "ValueError") (mv:X.mg "ValueError" = none) (gc:Gl X cx) (mc:X.mg cx=some (.ref C)) (hl:∀p∈l,Gl X p.1/\X.mg p.1=some (.ref p.2.2)/\(p.1==("__debug__" : Str))=false) (hs:l.length<=sizeLine)
    (xi:qm X.K C D fI f) (k1:PySem.W.kitOne X.K (.ref C) (.ref C)=some true) (k2:PySem.W.kitOne X.K (.ref C) (.type "ValueError")=some true) (k3:PySem.W.kitAny X.K (.ref C) ((l.map λp=>p.2.2).map Value.ref)=some false)
    (gb:Gl X cb) (mb:X.mg cb=some (.ref B)) (nd:((cb==("__debug__" : Str))||(fn==("__debug__" : Str)))=false) (k4:PySem.W.kitCls X.K (.ref C) (.ref B)=some true) (k5:PySem.W.kitCls X.K (.ref B) (.type "BaseException")=some true)
    (F:dE X.prog X.w X.K X.mg X.base (ql X.prog X.w) kk fa fd ps sp) (hr:eQ kk X.A) (gf:Gl X fn) (mf:X.mg fn=some (.ref fa)) (hk:PySem.W.keepIn X.K (.ref fa)=true) (hb:Binds X.K fd ps [])
    (ha:PA X.FC (a0::as) ta) (he:starEach (a0::as) X.env=(false,eval a0 X.env)::starEach as X.env) (nj:(backTo s5 (starEach as X.env)).any (·.1)=false) :
    PS X (.Try [.Assign [.Name x s1] (.Call (.Name fn s2) (a0::as) [] s5) s6] [.ExceptHandler (some (.Name cb s3)) (some n) [.Assign [.Name x p1] (.Tuple [.Constant (.str "odd") j1 p2] t1 p3) p4,
      .If (.BoolOp .And [.Call (.Name "isinstance" p5) [.Name n p6,.Name cx p7] [] p8,.Call (.Name "isinstance" p9) [.Name n q1,.Name "ValueError" q2] [] q3] q4) [.Assign [.Name x q5] (.Tuple [.Constant (.str "no") j2 q6,.Attribute (.Name n q7) f q8] t2 q9) r1] [] r2,
      .If (.Call (.Name "isinstance" r3) [.Name n r4,.Tuple (l.map λp=>.Name p.1 p.2.1) t3 r5] [] r6) [.Assign [.Name x v1] (.Tuple [.Constant (.str "odd") j3 v2] t4 v3) v4] [] r7] s4] [] [] s7)
      (λZ σ H=>ta σ H λvs H1=>sp vs H1 (λv H2=>Z.nx (σ.set i (some v)) H2) (Wr C f (l.map λp=>p.2.2) i j Z σ)):=by
  intro ae s σ H Z I h;simp only[CA]at nd;refine wpAny_Try_except (wpAny_execs_cons (wpAny_Assign_Name (CB (iL I gf mf ?_ nd.2)) rfl));refine PySem.W.callWith_K (h₀:=X.base) I.ok.mod.Ks hk (ju (ha s5 ae s σ H _ (I.k8 _) h) (λus s1 ⟨vs,H1,I1,r,q⟩=>⟨I1.jn,?_⟩) λ_ _ z=>z.elim) he nj;have I1:=I1.fD;have aY:us.length=ps.length:=by rw[<- r.length];exact F.len _ _ _ _ q
  refine wpAny_call (y4 (F.run X.A X.stack s1 H1 ⟨us,[]⟩ us vs _ _ hr I1.Hv (by have:=hb s1 us I1.jn (by rw[qF];exact aY);rw[qF]at this;exact this) r q) λr s2 hq=>?_)
  cases r with
  | error e =>
    obtain⟨ea,C',dx,T,H2,rfl,os,bare,un,bt,xa,TY,hT,hE⟩:=hq;obtain⟨d,fs,k,ec,ed,hd,hf,hz⟩:=hE;cases ec;cases ed;have I2:Inv X ae σ H2 s2:=I1.ze os un bt bare (λb z=>absurd z (by simp));obtain⟨th,Ws,R3⟩:=Bm (e:=ea) (dx:=dx) (fs:=fs) (k:=k) (p1:=p1) (p2:=p2) (p3:=p3) (p4:=p4) (p5:=p5) (p6:=p6) (p7:=p7) (p8:=p8) (p9:=p9) (q1:=q1) (q2:=q2) (q3:=q3) (q4:=q4) (q5:=q5) (q6:=q6) (q7:=q7) (q8:=q8) (q9:=q9) (r1:=r1) (r2:=r2) (r3:=r3) (r4:=r4) (r5:=r5) (r6:=r6) (r7:=r7) (v1:=v1) (v2:=v2) (v3:=v3) (v4:=v4) (j1:=j1) (j2:=j2) (j3:=j3) (t1:=t1) (t2:=t2) (t3:=t3) (t4:=t4) hN hi hj JG hx hn nb gi mi gv mv gc mc hl hs xi k1 k2 k3;have xb:=xa;obtain⟨le,oe,Y8,g1,_⟩:=xb;have l2:s1.heap.objs.size<=s2.heap.objs.size:=cJ le (mO (bL g1));have lT:s1.heap.objs.size<=T:=by obtain⟨_,_,_,_,_,_,_,_,_,z,_⟩:=xa;exact z
    refine tU I2 vd xa TY (lA.new I1 lT hT) l2 gb mb nd.1 k4 k5 hN hj hn Ws ?_;refine R3 _ σ H2 I2.len TY hd hf λa b c na nb nc=>?_;have z:=hz ea a b c na nb nc;unfold NR at z;rw[List.map_map]at z;exact z
  | ok fl =>
    cases fl with
    | next=>exact hq.elim
    | brk=>exact hq.elim
    | cont=>exact hq.elim
    | ret u =>
      obtain⟨v,H2,I2,rv,q2⟩:=I1.after hq;exact iK I2 hN hi (.inl hx) rv (λs3 I3=>yS (yS ⟨_,H2,I3,q2⟩)) (.inr hx)
end
theorem bQ.lookup{K:Frag}{ads:List Addr}{H:Hp}{f:Str}{d:D}:∀{xs:List (Str×D)}{ys:List (Str×V)},bQ K ads H xs ys->xs.lookup f=some d->∃v,ys.lookup f=some v/\RD K ads H d v
 | [],_,_,e=>nomatch e
 | p::xs,ys,h,e=>by
  unfold bQ at h;obtain⟨x,r,rfl,h0,h1,h2⟩:=h;obtain⟨a,b⟩:=p;obtain⟨a',v⟩:=x;obtain rfl:a=a':=h0;by_cases q:f=a
  ·subst q;simp only[eF,qD]at e⊢;cases e;exact⟨v,rfl,h1⟩
  ·have q:(f==a)=false:=by simpa using q
   simp only[eF,q]at e⊢;exact bQ.lookup h2 e
def nS(C:Addr)(f:Str)(F:List D->ag->bJ W)(ds:List D)(M:ag):bJ W:=match (F ds M).bind own with
 | .ok d M=>.ok (.d d) M
 | .err x M=>if x.cls=C then (match x.fs.lookup f with
  | some (.int i)=>.ok (.d (.tup [.str "no",.int i])) M
  | _=>.af) else .af
 | .af=>.af
noncomputable def TZ(sc:Scope)(L G:List Str):Bool:=L.all (λy=>sc.names.lookup y==some .local && !(y==("__debug__" : Str)) && !(y==("__classdict__" : Str)))&&G.all λy=>sc.names.lookup y==some .globalImplicit && !(y==("__debug__" : Str))
theorem EU {P : Program} {w : World} {K : Frag} {mg : Str -> Option Value} {base : Heap} {nm qual : Str} {st : Stmt} {ga fa : Addr} {gd fd : FuncData} {ps : List Str} {C Da fI B : Addr} {f a1 a2 a3 x n cx cb fn : Str} {k : Nat} {Fd : List D -> ag -> bJ W} {l : List (Str × Pos × Addr)} {p1 p2 p3 p4 p5 p6 p7 p8 p9 q1 q2 q3 q4 q5 q6 q7 q8 q9 r1 r2 r3 r4 r5 r6 r7 v1 v2 v3 v4 s1 s2 s3 s4 s5 s6 s7 u1 u2 u3 u4 u5 u6 u7 u8 : Pos} {j1 j2 j3 t1 t2 t3 t4 t5 : Nat}
    (Fn:Ky K nm qual st ga gd) (Sc:fF [a1,a2,a3,x,n] [a1,a2,a3] (aF st)) (z8:bZ st=[.Assign [.Name x u1] (.Tuple [] t5 u2) u3,.Try [.Assign [.Name x s1] (.Call (.Name fn s2) [.Name a1 u4,.Name a2 u5,.Name a3 u6] [] s5) s6] [.ExceptHandler (some (.Name cb s3)) (some n) [.Assign [.Name x p1] (.Tuple [.Constant (.str "odd") j1 p2] t1 p3) p4,
      .If (.BoolOp .And [.Call (.Name "isinstance" p5) [.Name n p6,.Name cx p7] [] p8,.Call (.Name "isinstance" p9) [.Name n q1,.Name "ValueError" q2] [] q3] q4) [.Assign [.Name x q5] (.Tuple [.Constant (.str "no") j2 q6,.Attribute (.Name n q7) f q8] t2 q9) r1] [] r2,
      .If (.Call (.Name "isinstance" r3) [.Name n r4,.Tuple (l.map λp=>.Name p.1 p.2.1) t3 r5] [] r6) [.Assign [.Name x v1] (.Tuple [.Constant (.str "odd") j3 v2] t4 v3) v4] [] r7] s4] [] [] s7,.Return (some (.Name x u7)) u8])
    (tb:TZ (aF st) [a1,a2,a3,x,n] (fn::cb::cx :: "isinstance" :: "ValueError" :: l.map λp=>p.1)=true) (mi:mg "isinstance" = none) (mv:mg "ValueError" = none) (mc:mg cx=some (.ref C)) (mb:mg cb=some (.ref B)) (ml:∀p∈l,mg p.1=some (.ref p.2.2)) (hs:l.length<=sizeLine)
    (xi:qm K C Da fI f) (k1:PySem.W.kitOne K (.ref C) (.ref C)=some true) (k2:PySem.W.kitOne K (.ref C) (.type "ValueError")=some true) (k3:PySem.W.kitAny K (.ref C) ((l.map λp=>p.2.2).map Value.ref)=some false) (k4:PySem.W.kitCls K (.ref C) (.ref B)=some true) (k5:PySem.W.kitCls K (.ref B) (.type "BaseException")=some true)
    (F:dE P w K mg base (ql P w) k fa fd ps (yF K 3 Fd)) (mf:mg fn=some (.ref fa)) (hk:PySem.W.keepIn K (.ref fa)=true) (hb:Binds K fd ps []):dE P w K mg base (ql P w) (k+1) ga gd [a1,a2,a3] (yF K 3 (nS C f Fd)):=by
  unfold TZ at tb;simp only[aK,s_,gR,ic]at tb;obtain⟨tl,tg⟩:=tb;have R4:=tl a1 (by simp);have R5:=tl a2 (by simp);have R6:=tl a3 (by simp);have lx:=tl x (by simp);have ln:=tl n (by simp);have g1:=tg fn (by simp);have g2:=tg cb (by simp);have g3:=tg cx (by simp);have g4:=tg "isinstance" (by simp);have g5:=tg "ValueError" (by simp);obtain⟨oc,od,kV,doc,pm,an,ki,ct,Ci,rfl,lk,yz⟩:=Fn.ex;refine zE lk yz Sc (λvs H Q E h=>?_) λA outer s H vs Q E hr sP=>?_
  · obtain⟨ads,M,ds,m,r,hl,_⟩:=h;rw[<- r.len,hl];rfl
  · let X:=oS (ql P w) P w K mg base [a1,a2,a3,x,n] qual (aF st) ga ki A outer s H E
    have nd:X.N.Nodup:=Sc.nd
    refine⟨_,by
      rw[z8]
      exact gr (tu (X:=X) (i:=3) nd rfl (.inl lx.1.1) (lb e7) rfl (.inr lx.1.1)) (gr (JH (X:=X) (i:=3) (j:=4) ⟨rfl,rfl⟩ nd rfl rfl (by decide) lx.1.1 ln.1.1 (by rw[ln.1.2,ln.2,g3.2];rfl) g4.1 mi g5.1 mv g3.1 mc (λp hp=>⟨(tg p.1 (by simp only[bS,kg];exact .inr (.inr (.inr (.inr (.inr ⟨p,hp,rfl⟩)))))).1,ml p hp,(tg p.1 (by simp only[bS,kg];exact .inr (.inr (.inr (.inr (.inr ⟨p,hp,rfl⟩)))))).2⟩) hs xi k1 k2 k3 g2.1 mb (by rw[g2.2,g1.2];rfl) k4 k5 F hr g1.1 mf hk hb
        (cC (gq (X:=X.FC) (i:=0) rfl (.inl R4.1.1) R4.1.2 R4.2) (cC (gq (X:=X.FC) (i:=1) rfl (.inl R5.1.1) R5.1.2 R5.2) (cC (gq (X:=X.FC) (i:=2) rfl (.inl R6.1.1) R6.1.2 R6.2) e7))) rfl rfl)
        (iM (zk (gq (X:=X) (i:=3) rfl (.inl lx.1.1) lx.1.2 lx.2)))),?_⟩
    obtain⟨ads,M,ds,m,r,hl,q⟩:=sP;have hv:vs.length=3:=by rw[<- r.len,hl]
    rcases vs with _|⟨v1,_|⟨v2,_|⟨v3,_|⟨v4,vs⟩⟩⟩⟩<;>first | (simp at hv;done) | skip
    refine⟨(by show 0<=sizeLine;decide),λp hp=>?_⟩;have g0:=av.dG (o:=.tup []) m hp;have m0:=m.dG (o:=.tup []) hp;refine⟨v1,rfl,v2,rfl,v3,rfl,ads,M,ds,m0,g0.qo _ _ r,hl,?_⟩;unfold nS at q
    cases hF:Fd ds M with
    | af=>rw[hF]at q;exact q
    | ok u M1 =>
      rw[hF]at q
      have q:@cj (tV E) K ads H Q (match own u M1 with
        | .ok d M=>.ok (.d d) M
        | .err x M=>if x.cls=C then (match x.fs.lookup f with
          | some (.int i)=>.ok (.d (.tup [.str "no",.int i])) M
          | _=>.af) else .af
        | .af=>.af):=q
      cases ho:own u M1 with
      | err _ _=>cases u<;>cases ho
      | af=>cases u<;>cases ho
      | ok d M2 =>
        rw[ho]at q;intro v H2 bU g2 m2 Wt;obtain⟨dt,g3,m3,rd⟩:=lR m0 g2 m2 Wt ho;exact⟨v,rfl,q v H2 dt (g0.trans g3) m3 rd⟩
    | err y M1 =>
      rw[hF]at q
      have q : @cj (tV E) K ads H Q (if y.cls = C then (match y.fs.lookup f with
          | some (.int i)=>.ok (.d (.tup [.str "no",.int i])) M1
          | _=>.af) else .af):=q
      split at q
      · rename_i hC
        split at q
        · rename_i i hi
          intro H2 bU dx fs g2 m2 hd rk;obtain⟨v,lv,rv⟩:=rk.lookup hi;obtain rfl:v=.int i:=by unfold RD at rv;exact rv
          refine⟨dx,fs,i,by rw[hC],rfl,hd,lv,λe a b c na nb nc=>?_⟩;have h1:=av.dG (o:=.tup [.str "odd"]) m2 na;have k1:=m2.dG (o:=.tup [.str "odd"]) na;have h2:=av.dG (o:=.tup [.str "no",.int i]) k1 nb;have k2:=k1.dG (o:=.tup [.str "no",.int i]) nb;have h3:=av.dG (o:=.tup ((l.map λp=>p.2.2).map V.ref)) k2 nc;have k3:=k2.dG (o:=.tup ((l.map λp=>p.2.2).map V.ref)) nc;refine⟨.ref b,rfl,q (.ref b) _ bU ((((g0.trans g2).trans h1).trans h2).trans h3) k3 ?_⟩;show RD K bU _ (.tup [.str "no",.int i]) (.ref b);unfold RD;refine⟨b,_,rfl,h3.eP b _ aQ,?_⟩;unfold aT;refine⟨.str "no",[.int i],rfl,by unfold RD;rfl,?_⟩;unfold aT;exact⟨.int i,[],rfl,by unfold RD;rfl,by unfold aT;rfl⟩
        · exact q.elim
      · exact q.elim
theorem qm.of{K:Frag}{C Da fI N:Addr}{f:Str}{nm q:Str}{bs sub:List Value}{sn:List Str}{ab:Bool}{nF:Option Bool}{dd de:Option Addr}{k0 k1 k2 k3 k5:Option Value}{c0:Value}{cd:ClassData}{sl:Array (Option Value)} (l1:K.lookup C=some (excClassObj nm q C N bs (.ref Da::VE) true sn sub ab nF dd k0 k1 k2 k3 k5 "ValueError.__new__")) (o1:PySem.W.nsOkIn K N=true) (i1:PySem.W.nsIn K N "__init__" = some (some (.ref fI))) (n1:((f::eI).all λn=>match PySem.W.nsIn K N n with | some none=>true | _=>false)=true) (l2:K.lookup Da=some {cls:=c0,dict:=de,data:=.cls cd,slots:=sl}) (o2:PySem.W.nsOkIn K cd.ns=true) (n2:((("__init__" : Str)::f::eI).all λn=>match PySem.W.nsIn K cd.ns n with | some none=>true | _=>false)=true) (ve:typeLookup (.type "ValueError") f=pure none):qm K C Da fI f:=by
 have al:∀{M:Addr}{l:List Str},(l.all λn=>match PySem.W.nsIn K M n with | some none=>true | _=>false)=true->∀n∈l,PySem.W.nsIn K M n=some none:=λ{M l} z n hn=>by
  have q:=s_.mp z n hn;split at q
  ·assumption
  ·cases q
 exact⟨⟨nm,q,N,bs,sn,sub,ab,nF,dd,k0,k1,k2,k3,k5,l1,o1,i1,al n1⟩,⟨c0,de,cd,sl,l2,o2,al n2⟩,ve⟩
theorem yf:typeLookup (.type "ValueError") "number" = pure none:=by rw[typeLookup_type,GC];kernel_rfl
section
variable [er:Er]
abbrev Fn:=List D->ag->bJ W
noncomputable def Fr(w:Nat)(M M':ag):Prop:=M.length<=M'.length/\∀n,n<M.length->n≠w->M'[n]?=M[n]?
abbrev Ex(M M':ag):Prop:=Fr M.length M M'
theorem aV{M:ag}{n:Nat}{o:MO}(h:M[n]?=some o):n<M.length:=(bV.mp h).1
theorem aW{M X:ag}{n:Nat}{o:MO}(h:M[n]?=some o):(M++X)[n]?=some o:=by rw[jq (aV h)];exact h
theorem aA{M:ag}{o:MO}:(M++[o])[M.length]?=some o:=by simp
theorem bw{M:ag}{n m:Nat}{o u:MO}(h:M[n]?=some o)(hn:n≠m):(M.set m u)[n]?=some o:=by rw[jr (cK hn)];exact h
theorem bH{M:ag}{n:Nat}{o u:MO}(h:M[n]?=some o):(M.set n u)[n]?=some u:=kS (aV h)
theorem Fr.refl(w:Nat)(M:ag):Fr w M M:=⟨aL _,λ_ _ _=>rfl⟩
theorem Fr.trans{w:Nat}{M M1 M2:ag}(a:Fr w M M1)(b:Fr w M1 M2):Fr w M M2:=⟨cJ a.1 b.1,λn h k=>(b.2 n (eZ h a.1) k).trans (a.2 n h k)⟩
theorem Fr.app{w:Nat}{M M1 X:ag}(a:Fr w M M1):Fr w M (M1++X):=⟨by have:=a.1;simp only[fB];omega,λn h k=>by rw[jq (eZ h a.1)];exact a.2 n h k⟩
theorem Fr.set{w n:Nat}{M M1:ag}{o:MO}(a:Fr w M M1)(h:M.length<=n):Fr w M (M1.set n o):=⟨by rw[jt];exact a.1,λm hm k=>by rw[jr ∅];exact a.2 m hm k⟩
theorem Fr.R7{w:Nat}{M M1:ag}{o:MO}(a:Fr w M M1):Fr w M (M1.set w o):=⟨by rw[jt];exact a.1,λm hm k=>by rw[jr (cK k)];exact a.2 m hm k⟩
theorem Fr.get{w n:Nat}{M M1:ag}{o:MO}(a:Fr w M M1)(h:M[n]?=some o)(k:n≠w):M1[n]?=some o:=(a.2 n (aV h) k).trans h
theorem Fr.back{w v:Nat}{M M1 M2:ag}(a:Fr w M M1)(b:Fr v M1 M2)(h:M.length<=v\/v=w):Fr w M M2:=⟨cJ a.1 b.1,λn hn k=>(b.2 n (eZ hn a.1) ∅).trans (a.2 n hn k)⟩
theorem Ex.refl(M:ag):Ex M M:=Fr.refl _ M
theorem Ex.get{n:Nat}{M M1:ag}{o:MO}(a:Ex M M1)(h:M[n]?=some o):M1[n]?=some o:=Fr.get a h (ej (aV h))
theorem Ex.trans{M M1 M2:ag}(a:Ex M M1)(b:Ex M1 M2):Ex M M2:=Fr.back a b (.inl a.1)
section
variable {M:ag} {n:Nat} {ds:List D} {i:Int} {x:D}
theorem wc(hi:0<=i)(h:ds[i.toNat]?=some x):Pf ds i=some x:=by
 have hl:=(bV.mp h).1;unfold Pf vv zP;rw[aS hi,aS ∅];exact h
theorem bh(hM:M[n]?=some (.lst ds))(hi:0<=i)(h:ds[i.toNat]?=some x):cW (.d (.aD n)) (.d (.int i)) M=.ok (.d x) M:=by
 unfold cW bN;simp only[hM,wc hi h]
theorem pQ(hi:0<=i)(h:ds[i.toNat]?=some x):cW (.lv ds) (.d (.int i)) M=.ok (.d x) M:=by
 unfold cW bN;simp only[wc hi h]
theorem kI(hi:0<=i)(h:ds[i.toNat]?=some x):cW (.d (.tup ds)) (.d (.int i)) M=.ok (.d x) M:=by
 unfold cW bN;simp only[wc hi h]
theorem Bn{m:Nat}(h:ds[m]?=some x):cW (.d (.tup ds)) (.d (.int m)) M=.ok (.d x) M:=kI (Int.natCast_nonneg m) (by rw[GK];exact h)
theorem sg{m:Nat}(hM:M[n]?=some (.lst ds))(h:ds[m]?=some x):cW (.d (.aD n)) (.d (.int m)) M=.ok (.d x) M:=bh hM (Int.natCast_nonneg m) (by rw[GK];exact h)
theorem JI(hi:0<=i)(h:ds[i.toNat]?=some x):cW (.d (.ls ds)) (.d (.int i)) M=.ok (.d x) M:=by
 unfold cW bN;simp only[wc hi h]
theorem fy(hM:M[n]?=some (.lst ds))(hl:ds.length<sizeLine):tZ .append (.d (.aD n)) [x] M=.ok (.d .aJ) (M.set n (.lst (ds++[x]))):=by
 unfold tZ;simp only[hM,aS hl]
theorem sh(hM:M[n]?=some (.lst ds))(hl:ds.length<sizeLine)(h0:0<=i)(h1:i<=ds.length):tZ .insert (.d (.aD n)) [.int i,x] M=.ok (.d .aJ) (M.set n (.lst (ds.take i.toNat++x::ds.drop i.toNat))):=by
 unfold tZ;simp only[hM];rw[aS ⟨hl,h0,h1⟩]
theorem dX(hM:M[n]?=some (.lst ds)):(ff M (.d (.aD n))).isSome=true:=by unfold ff;simp only[hM];rfl
theorem fS(hM:M[n]?=some (.lst ds)):kA .len [.d (.aD n)] M=.ok (.d (.int ds.length)) M:=by unfold kA bN;simp only[hM]
theorem bR(hM:M[n]?=some (.lst ds)):kA .tuple1 [.d (.aD n)] M=.ok (.d (.tup ds)) M:=by unfold kA bN;simp only[hM]
theorem fT(hM:M[n]?=some (.lst ds)):lE .seq [.d (.aD n)] M=.ok (.at n) M:=by
 unfold lE bN;simp only[hM];rfl
theorem si(hM:M[n]?=some (.lst ds)):dj M (.at n)=ds.length:=by unfold dj;simp only[hM]
theorem kJ{m:Nat}(hM:M[n]?=some (.lst ds))(hm:m<ds.length):gz (.d (.aD n)) (.d (.int m)) x M=.ok () (M.set n (.lst (ds.set m x))):=by
 unfold gz;simp only[hM]
 have:zP ds.length (m:Int)=some m:=by
  unfold zP;rw[aS ∅,aS ∅];simp
 simp only[this]
theorem l5(hM:M[n]?=some (.lst ds))(hi:0<=i)(hm:i.toNat<ds.length):gz (.d (.aD n)) (.d (.int i)) x M=.ok () (M.set n (.lst (ds.set i.toNat x))):=by
 have:=kJ (x:=x) hM hm;rw[show((i.toNat:Nat):Int)=i by omega]at this;exact this
end
theorem l7{n:Nat}(h:n<=1000):n<=sizeLine:=cJ h (by decide)
theorem bE{n:Nat}(h:n<=1000):n<sizeLine:=Nat.lt_of_le_of_lt h (by decide)
theorem dN{α:Type}{l:List α}{k:Nat}{x:α}(h:l[k]?=some x):l.take (k+1)=l.take k++[x]:=by
 rw[List.take_add_one,h];rfl
theorem pR{x:Str}(h:PyData.strOk x=true):SeqAt.shaped (.str x)=true:=by
 unfold SeqAt.shaped;rw[wW,h,wY];rfl
theorem we{x y:Str}:PyData.eqv (.str x) (.str y)=(x==y):=PyData.eqv.eq_6 x y
theorem Bo{M:ag}{x:Str}:iH M (.d (.str x))=some (.str x):=by show cM M 30 (.str x)=_;unfold cM;rfl
theorem aI{M:ag}{x y:Str}(hx:PyData.strOk x=true)(hy:PyData.strOk y=true):bg .eq (.d (.str x)) (.d (.str y)) M=.ok (x==y) M:=by
 unfold bg;simp only[Bo,pR hx,pR hy,jv,dD,we]
theorem Bp{M:ag}{x y:Str}(hx:PyData.strOk x=true)(hy:PyData.strOk y=true):bg .ne (.d (.str x)) (.d (.str y)) M=.ok (!(x==y)) M:=by
 unfold bg;simp only[Bo,pR hx,pR hy,jv,dD,we]
section
variable {G:bc} {b:List S} {tg:List Nat} {ρ:En} {M:ag} {nx:En->ag->Prop} {rt:W->ag->Prop} {bk ct:En->ag->Prop}
theorem j6{lo:Int}{n:Nat}(I:Nat->En->ag->Prop)(h0:I 0 ρ M)(hs:∀i ρ M,i<n->I i ρ M->F5 (bO tg (.int (lo+i)) ρ) λρ=>dB G b ρ M (I (i+1)) rt nx (I (i+1)))(he:∀ρ M,I n ρ M->nx ρ M):eY (du (λρ M=>cB G b ρ M) (.jU lo n) tg n 0 ρ M) nx rt bk ct:=by
 have aY:((List.range n).map λi=>D.int (lo+(i:Nat))).length=n:=by simp
 refine lZ (ds:=(List.range n).map λi=>D.int (lo+(i:Nat))) I (λi ρ M _ hi=>?_) (λi ρ M d h e=>?_) (λρ M h=>he ρ M (by rw[aY]at h;exact h)) n 0 ρ M h0 (by rw[aY];omega)
 ·rw[aY]at hi;show some (if i<n then some (D.int (lo+i)) else none)=_;by_cases q:i<n
  ·rw[aS q];simp[q]
  ·rw[a8 q,Cu (by rw[aY];omega)]
 ·have hi:i<n:=by have:=(bV.mp e).1;rw[aY]at this;exact this
  have:d=.int (lo+i):=by rw[dz,yN hi]at e;exact(cU e).symm
  subst this;have q:=hs i ρ M hi h
  cases e2:bO tg (.int (lo+i)) ρ with
  | none=>rw[e2]at q;exact q.elim
  | some d4=>rw[e2]at q;exact⟨d4,rfl,by rw[ur];exact q⟩
theorem je{ds:List D}(I:Nat->En->ag->Prop)(h0:I 0 ρ M)(hs:∀i ρ M d,ds[i]?=some d->I i ρ M->F5 (bO tg d ρ) λρ=>dB G b ρ M (I (i+1)) rt nx (I (i+1)))(he:∀ρ M,I ds.length ρ M->nx ρ M):eY (du (λρ M=>cB G b ρ M) (.items ds) tg ds.length 0 ρ M) nx rt bk ct :=
 lZ (ds:=ds) I (λi ρ M _ _=>rfl) (λi ρ M d h e=>by
  have q:=hs i ρ M d e h
  cases e2:bO tg d ρ with
  | none=>rw[e2]at q;exact q.elim
  | some d4=>rw[e2]at q;exact⟨d4,rfl,by rw[ur];exact q⟩) he ds.length 0 ρ M h0 ∅
theorem NS{n:Nat}{ds:List D}(I:Nat->En->ag->Prop)(hM:∀i ρ M,I i ρ M->M[n]?=some (.lst ds))(h0:I 0 ρ M)(hs:∀i ρ M d,ds[i]?=some d->I i ρ M->F5 (bO tg d ρ) λρ=>dB G b ρ M (I (i+1)) rt nx (I (i+1)))(he:∀ρ M,I ds.length ρ M->nx ρ M):eY (du (λρ M=>cB G b ρ M) (.at n) tg (dj M (.at n)) 0 ρ M) nx rt bk ct:=by
 rw[si (hM 0 ρ M h0)]
 exact lZ (ds:=ds) I (λi ρ M h _=>by unfold itemAt;simp only[hM i ρ M h]) (λi ρ M d h e=>by
  have q:=hs i ρ M d e h
  cases e2:bO tg d ρ with
  | none=>rw[e2]at q;exact q.elim
  | some d4=>rw[e2]at q;exact⟨d4,rfl,by rw[ur];exact q⟩) he ds.length 0 ρ M h0 ∅
end
theorem l9:∀(tg:List Nat)(ds:List D)(ρ:En)(i:Nat)(o:Option D),i∉tg->dk tg ds (ρ.set i o)=(dk tg ds ρ).map (·.set i o)
 | [],[],_,_,_,_=>rfl
 | [],_::_,_,_,_,_=>rfl
 | _::_,[],_,_,_,_=>rfl
 | j::tg,d::ds,ρ,i,o,h=>by
  have h1:i≠j:=λz=>h (by rw[z];exact eg);show dk tg ds ((ρ.set i o).set j (some d))=_;rw[List.set_comm _ _ h1,l9 tg ds _ i o λz=>h (dC _ z)];rfl
theorem fU:∀(tg:List Nat)(ds es:List D)(ρ d4:En),tg.Nodup->dk tg ds ρ=some d4->dk tg es d4=dk tg es ρ
 | [],[],[],_,_,_,e=>by cases e;rfl
 | [],[],_::_,_,_,_,e=>by cases e;rfl
 | [],_::_,_,_,_,_,e=>by cases e
 | _::_,[],_,_,_,_,e=>by cases e
 | j::tg,d::ds,[],ρ,d4,n,e=>rfl
 | j::tg,d::ds,f::es,ρ,d4,n,e=>by
  have n1:=yU.mp n;have e:dk tg ds (ρ.set j (some d))=some d4:=e;show dk tg es (d4.set j (some f))=dk tg es (ρ.set j (some f));have e2:=l9 tg ds (ρ.set j (some d)) j (some f) n1.1;rw[e,List.set_set]at e2;exact fU tg ds es _ _ n1.2 e2
theorem sj{tg:List Nat}{d e:D}{ρ d4:En}(n:tg.Nodup)(h:bO tg d ρ=some d4):bO tg e d4=bO tg e ρ:=by
 match tg,n,h with
 | [i],_,h =>
  have h:some (ρ.set i (some d))=some d4:=h;cases h;show some ((ρ.set i (some d)).set i (some e))=some (ρ.set i (some e));rw[List.set_set]
 | [],_,h =>
  cases d<;>first | cases h | skip
  cases e<;>first | rfl | skip
  exact fU [] _ _ _ _ List.nodup_nil h
 | i::j::tg,n,h =>
  cases d<;>first | cases h | skip
  cases e<;>first | rfl | skip
  exact fU (i::j::tg) _ _ _ _ n h
end
section
variable {ee:vG->ag->Prop} {G:bc} {cond:Option dZ} {elt:C} {tg:List Nat} {ρ:En} {M:ag} {P:W->ag->Prop}
theorem jf{it:It}{ds:List D}(I:Nat->ag->List D->Prop)(n:tg.Nodup)(hit:∀i M acc,I i M acc->i<=ds.length->itemAt M i it=some ds[i]?)(h0:I 0 M [])(hs:∀i M acc d,ds[i]?=some d->I i M acc->acc.length<sizeLine/\F5 (bO tg d ρ) λτ=>jd G cond τ M λr M=>if r=true then wE G elt τ M λw M=>dU (own w M) λx M=>I (i+1) M (acc++[x]) else I (i+1) M acc)(he:∀M acc,I ds.length M acc->P (.lv acc) M){k:Nat}(hk:k=ds.length):@aG ⟨ee⟩ _ (ba (λτ M=>bB G cond τ M) (λτ M=>(ev G elt τ M).bind own) it tg k 0 ρ M []) P:=by
 subst hk;refine pO (er:=⟨ee⟩) (ds:=ds) (λi τ M acc=>I i M acc/\(τ=ρ\/∃d,bO tg d ρ=some τ)) (λi τ M acc h hi=>hit i M acc h.1 hi) (λi τ M acc d h e=>?_) (λτ M acc h=>he M acc h.1) ds.length 0 ρ M [] ⟨h0,.inl rfl⟩ ∅;obtain⟨q1,q2⟩:=hs i M acc d e h.1
 have hb:bO tg d τ=bO tg d ρ:=by
  rcases h.2 with z | ⟨d',z⟩
  ·rw[z]
  ·exact sj n z
 refine⟨q1,?_⟩
 cases e2:bO tg d ρ with
 | none=>rw[e2]at q2;exact q2.elim
 | some F7 =>
  rw[e2]at q2;refine⟨F7,by rw[hb,e2],?_⟩;have q2:jd G cond F7 M (λr M=>if r=true then wE G elt F7 M λw M=>dU (own w M) λx M=>I (i+1) M (acc++[x]) else I (i+1) M acc):=q2;rw[<- w_cond]at q2;refine q2.imp λr M1 q3=>?_
  cases r with
  | true =>
   rw[aS rfl]at q3⊢;rw[se];rw[<- se]at q3⊢;exact q3.imp λx M2 q4=>⟨q4,.inr ⟨d,e2⟩⟩
  | false =>
   rw[a8 (by simp)]at q3⊢;exact⟨q3,.inr ⟨d,e2⟩⟩
theorem wg{it:It}{ds:List D}(f:D->Option D)(n:tg.Nodup)(hit:∀M',Ex M M'->∀i,i<=ds.length->itemAt M' i it=some ds[i]?)(hl:ds.length<=sizeLine)(hs:∀(i:Nat) M' d,ds[i]?=some d->Ex M M'->F5 (bO tg d ρ) λτ=>jd G cond τ M' λr M1=>if r=true then wE G elt τ M1 λw M1=>dU (own w M1) λx M1=>f d=some x/\Ex M M1 else f d=none/\Ex M M1)(he:∀M',Ex M M'->P (.lv (ds.filterMap f)) M'){k:Nat}(hk:k=ds.length):@aG ⟨ee⟩ _ (ba (λτ M=>bB G cond τ M) (λτ M=>(ev G elt τ M).bind own) it tg k 0 ρ M []) P:=by
 refine jf (ee:=ee) (ds:=ds) (λi M' acc=>Ex M M'/\acc=(ds.take i).filterMap f) n (λi M' acc h hi=>hit M' h.1 i hi) ⟨Ex.refl M,rfl⟩ ?_ (λM' acc h=>?_) hk
 ·rintro i M' acc d hd ⟨h1,rfl⟩;have hi:=(bV.mp hd).1;refine⟨?_,?_⟩
  ·have:=List.length_filterMap_le f (ds.take i);rw[iI]at this;omega
  ·have q:=hs i M' d hd h1
   have e:∀o,f d=o->(ds.take (i+1)).filterMap f=(ds.take i).filterMap f++o.toList:=λo ho=>by
    rw[dN hd,List.filterMap_append];cases o<;>simp[j_,ho]
   cases e2:bO tg d ρ with
   | none=>rw[e2]at q;exact q.elim
   | some F7 =>
    rw[e2]at q;have q:jd G cond F7 M' (λr M1=>if r=true then wE G elt F7 M1 λw M1=>dU (own w M1) λx M1=>f d=some x/\Ex M M1 else f d=none/\Ex M M1):=q;show jd G cond F7 M' (λr M1=>if r=true then wE G elt F7 M1 λw M1=>dU (own w M1) λx M1=>Ex M M1/\(ds.take i).filterMap f++[x]=(ds.take (i+1)).filterMap f else Ex M M1/\(ds.take i).filterMap f=(ds.take (i+1)).filterMap f);rw[<- w_cond]at q⊢;refine q.imp λr M1 q3=>?_
    cases r with
    | true =>
     rw[aS rfl]at q3⊢;rw[<- se]at q3⊢;exact q3.imp λx M2 q4=>⟨q4.2,by rw[e _ q4.1];rfl⟩
    | false =>
     rw[a8 (by simp)]at q3⊢;exact⟨q3.2,by rw[e _ q3.1];simp⟩
 ·obtain⟨h1,rfl⟩:=h;rw[oo];exact he M' h1
theorem Bq{M:ag}{ds:List D}:∀M',Ex M M'->∀i,i<=ds.length->itemAt M' i (.items ds)=some ds[i]?:=λ_ _ _ _=>rfl
theorem sk{M:ag}{n:Nat}{ds:List D}(h:M[n]?=some (.lst ds)):∀M',Ex M M'->∀i,i<=ds.length->itemAt M' i (.at n)=some ds[i]?:=λM' e i _=>by unfold itemAt;simp only[Ex.get e h]
theorem JJ{M:ag}{lo:Int}{n:Nat}:∀M',Ex M M'->∀i,i<=((List.range n).map λi=>D.int (lo+(i:Nat))).length->itemAt M' i (.jU lo n)=some ((List.range n).map λi=>D.int (lo+(i:Nat)))[i]?:=λM' e i hi=>by
 have aY:((List.range n).map λi=>D.int (lo+(i:Nat))).length=n:=by simp
 rw[aY]at hi;show some (if i<n then some (D.int (lo+i)) else none)=_;by_cases q:i<n
 ·rw[aS q];simp[q]
 ·rw[a8 q,Cu (by rw[aY];omega)]
theorem NT{lo:Int}{n:Nat}(I:Nat->ag->List D->Prop)(nd:tg.Nodup)(h0:I 0 M [])(hs:∀i M acc,i<n->I i M acc->acc.length<sizeLine/\F5 (bO tg (.int (lo+i)) ρ) λτ=>jd G cond τ M λr M=>if r=true then wE G elt τ M λw M=>dU (own w M) λx M=>I (i+1) M (acc++[x]) else I (i+1) M acc)(he:∀M acc,I n M acc->P (.lv acc) M):@aG ⟨ee⟩ _ (ba (λτ M=>bB G cond τ M) (λτ M=>(ev G elt τ M).bind own) (.jU lo n) tg (dj M (.jU lo n)) 0 ρ M []) P:=by
 have aY:((List.range n).map λi=>D.int (lo+(i:Nat))).length=n:=by simp
 refine jf (ee:=ee) (ds:=(List.range n).map λi=>D.int (lo+(i:Nat))) I nd (λi M' acc _ hi=>JJ M' (Ex.refl M') i hi) h0 (λi M' acc d e h=>?_) (λM' acc h=>he M' acc (by rw[aY]at h;exact h)) (by rw[aY];rfl);have hi:i<n:=by have:=(bV.mp e).1;rw[aY]at this;exact this
 have:d=.int (lo+i):=by rw[dz,yN hi]at e;exact(cU e).symm
 subst this;exact hs i M' acc hi h
end
section
variable [er:Er]
section
variable {G:bc} {ρ:En} {M:ag} {P:W->ag->Prop} {B:Bool->ag->Prop}
theorem nG{a b:C}:wE G (.sub a b) ρ M P=wE G a ρ M λx M=>wE G b ρ M λy M=>dU (cW x y M) P:=rfl
theorem Ac{f:Nat}{cs:List C}:wE G (.call f cs) ρ M P=yH G cs ρ M λds M=>aG (G f ds M) P:=rfl
end
end
end Ev
end
local macro_rules
  | `(tactic| nofun) => `(tactic| conv => whnf)
section
namespace Ev
open L2
open PySem PySem.Spec PyProof.Rows
def pS:List S:=[.dI [4] .seq [(.sub (.sub (.ks 0 0) 1) (.kn 1))] [.iff (.di [(.val (.cmp .eq (.ks 4 0) 2)),(.val (.cmp .eq (.ks 4 1) 3))]) [.ret (.tup [(.ks 4 2),(.ks 4 3),(.ks 4 4)])] []],.iff (.val (.cmp .eq 3 (.bf (.str "own")))) [.ret (.bf .aJ)] [],.ret (.tup [2,(.tup []),(.bf .aJ)])]
noncomputable def Br:List S:=[.asg [2] (.bin .mul (.kn 31) 1),.iff (.val (.cmp .gt (.bi .len [0]) (.kn 0))) [.asg [2] (.bin .add (.sub 0 (.bin .mod 1 (.bi .len [0]))) (.bin .mul (.kn 7919) (.bin .fdiv 1 (.bi .len [0]))))] [],.ret (.xI ["cell","left","turn"] [2,(.bin .mul (.bi .max2 [(.kn 0),2]) (.bi .rC [(.cmp .ge 2 (.bin .pow (.kn 10) (.kn 18)))])),(.kn 0)])]
noncomputable def wj:List S:=[.asg [2] (.sub 0 (.bf (.str "turn"))),.put 0 (.bf (.str "turn")) (.bin .add 2 (.kn 1)),.asg [3] (.sub 0 (.bf (.str "left"))),.iff (.val (.cmp .gt 3 (.kn 0))) [.put 0 (.bf (.str "left")) (.bin .fdiv 3 1),.ret (.bin .mod 3 1)] [],.asg [4] (.bin .add (.bin .add (.bin .mod (.sub 0 (.bf (.str "cell"))) (.kn 2147483647)) (.bin .mul (.bin .mul (.kn 31) 2) 2)) (.kn 1)),.asg [5] (.bin .mod (.bin .mul 4 (.bin .add (.kn 48271) (.bin .mul (.kn 40) 2))) (.kn 2147483629)),.ret (.bin .mod (.bin .fdiv (.bin .mod (.bin .add (.bin .mul (.bin .fdiv 5 (.kn 11)) (.kn 69621)) 2) (.kn 998244353)) (.kn 7)) 1)]
noncomputable def uu(ar:Nat):List S:=[.asg [2] (.lst []),.iff (.val (.cmp .gt 1 (.kn 1))) [.asg [3] (.lst [(.call ar [0,(.kn 4)]),(.bin .add (.kn 1) (.call ar [0,(.kn 5)])),(.kn 8)]),.dI [4] .fJ [(.sub 3 (.bin .fdiv (.call ar [0,(.kn 9)]) (.kn 4)))] [.asg [5] (.call ar [0,1]),.asg [6] (.bin .mod (.bin .add (.bin .add 5 (.kn 1)) (.call ar [0,(.bin .sub 1 (.kn 1))])) 1),.expr (.me .append 2 [(.tup [5,6,(.sub (.lst [(.bf (.str "row")),(.bf (.str "heap"))]) (.call ar [0,(.kn 2)]))])])]] [],.ret (.bi .tuple1 [2])]
noncomputable def pT(ar:Nat):List S:=[.asg [1] (.lst [(.call ar [0,(.kn 100)])]),.asg [2] (.lst [(.call ar [0,(.kn 3)]),(.kn 6)]),.dI [3] .fJ [(.sub 2 (.bin .fdiv (.call ar [0,(.kn 16)]) (.kn 15)))] [.asg [4] (.sub (.lst [(.call ar [0,(.kn 100)]),3]) (.call ar [0,(.kn 2)])),.iff (.val (.cmp .eJ 4 1)) [.expr (.me .append 1 [4])] []],.ret 1]
noncomputable def uw(ar:Nat):List S:=[.asg [2] (.lst []),.dI [3] .fJ [(.bin .mul (.sub (.lst [(.kn 0),(.kn 0),(.kn 1),(.kn 1),(.kn 1),(.kn 2),(.kn 3)]) (.call ar [0,(.kn 7)])) (.bi .rC [(.cmp .gt (.bi .len [1]) (.kn 0))]))] [.asg [4] (.sub 1 (.call ar [0,(.bi .len [1])])),.expr (.me .append 2 [(.tup [4,(.sub (.bf (.str "abcz")) (.call ar [0,(.kn 4)]))])])],.ret (.bi .tuple1 [2])]
def ux(ar:Nat)(l_:Nat):List S:=[.asg [3] (.lst [(.bf .aJ),(.bf .aJ),(.bf .aJ),(.bf (.str "x")),(.bf (.str "yes")),(.bf (.str "abcdefgh")),(.bf (.str "own")),(.bf (.str "a"))]),.asg [4] (.lst []),.dI [5] .seq [1] [.dI [6] .seq [(.tup [(.bf (.str "own")),(.bf (.str "a")),(.bf (.str "b")),(.bf (.str "z"))])] [.iff (.val (.cmp .gt (.call ar [0,(.kn 4)]) (.kn 0))) [.asg [7] (.sub 1 (.call ar [0,(.bi .len [1])])),.asg [8] (.call l_ [0,2]),.asg [9] (.sub 3 (.call ar [0,(.kn 8)])),.asg [10] (.call ar [0,(.bin .add (.bi .len [4]) (.kn 1))]),.expr (.me .insert 4 [10,(.tup [5,6,7,8,9])])] []]],.ret (.bi .tuple1 [4])]
noncomputable def wk(c_:Nat)(ar:Nat)(iF:Nat)(cS:Nat)(d9:Nat):List S:=[.asg [1] (.call c_ [0,(.kn 0)]),.asg [2] (.sub (.lst [(.kn 2),(.kn 1),(.kn 3),(.kn 2),(.kn 4),(.kn 3)]) (.call ar [1,(.kn 6)])),.asg [3] (.call iF [1,2]),.asg [4] (.lst []),.dI [5] .fJ [2] [.asg [1] (.call c_ [0,(.bin .add (.kn 1) 5)]),.asg [6] (.call cS [1]),.jc 7 (.comp .fJ [(.bi .len [3])] [1] (some (.val (.cmp .eq (.sub (.sub 3 1) (.kn 0)) 2))) 1 [none,none,some 5,some 3]),.asg [8] (.sub 6 (.call ar [1,(.bi .len [6])])),.expr (.me .append 4 [(.tup [8,(.call d9 [1,6,7])])])],.ret (.tup [(.bi .tuple1 [4]),3])]
def pU:List S:=[.jc 4 (.comp .seq [(.sub (.sub (.ks 0 0) 1) (.kn 1))] [1] (some (.val (.cmp .eq (.sQ 1 none (some (.kn 2))) (.tup [3,2])))) (.sQ 1 (some (.kn 2)) none) [none,none,some 3,some 2]),.iff (.val (.cmp .ne 4 (.lst []))) [.ret (.ks 4 0)] [],.ret (.ite (.val (.cmp .eq 3 (.bf (.str "own")))) (.bf .aJ) (.tup [2,(.tup []),(.bf .aJ)]))]
noncomputable def fW(c l t:Int):MO:=.dK [(Sum.inr ("cell" : Str),.int c),(Sum.inr ("left" : Str),.int l),(Sum.inr ("turn" : Str),.int t)]
section
variable {M:ag} {w:Nat} {c l t:Int}
theorem Bs(h:M[w]?=some (fW c l t)):cW (.d (.aD w)) (.d (.str "cell")) M=.ok (.d (.int c)) M:=by
 unfold cW;simp only[h];rfl
theorem Bt(h:M[w]?=some (fW c l t)):cW (.d (.aD w)) (.d (.str "left")) M=.ok (.d (.int l)) M:=by
 unfold cW;simp only[h];rfl
theorem Bu(h:M[w]?=some (fW c l t)):cW (.d (.aD w)) (.d (.str "turn")) M=.ok (.d (.int t)) M:=by
 unfold cW;simp only[h];rfl
theorem Bv(h:M[w]?=some (fW c l t))(i:Int):gz (.d (.aD w)) (.d (.str "left")) (.int i) M=.ok () (M.set w (fW c i t)):=by
 unfold gz;simp only[h];rfl
theorem Bw(h:M[w]?=some (fW c l t))(i:Int):gz (.d (.aD w)) (.d (.str "turn")) (.int i) M=.ok () (M.set w (fW c l i)):=by
 unfold gz;simp only[h];rfl
end
theorem EV{G:bc}{M:ag}{w:Nat}{c l t kr:Int}(h:M[w]?=some (fW c l t))(ht:0<=t/\t<2 ^ 40)(hl:0<=l)(hm:0<kr/\kr<1073741824):aG (ah G 6 wj [.aD w,.int kr] M) λr M'=>∃i l',r=.d (.int i)/\0<=i/\i<kr/\0<=l'/\M'=M.set w (fW c l' (t+1)):=by
 have hw:w<M.length:=(bV.mp h).1;rw[bo];show dB G wj [some (.aD w),some (.int kr),none,none,none,none] M _ _ _ _;have h1:(M.set w (fW c l (t+1)))[w]?=some (fW c l (t+1)):=kS hw;nofun;rw[Bu h];nofun;rw[Bw h];nofun;rw[Bt h1];nofun;by_cases hp:0<l
 ·rw[e5 hp];nofun;refine⟨hm,?_⟩;nofun;rw[Bv h1];nofun;refine⟨hm.1,_,l / kr,rfl,CO _ ∅,CH _ hm.1,Int.ediv_nonneg hl ∅,?_⟩;rw[List.set_set]
 ·rw[eh hp];nofun;rw[Bs h1];nofun;refine⟨∅,?_⟩;nofun;refine⟨∅,?_⟩;nofun;refine⟨∅,?_⟩;nofun;refine⟨∅,?_⟩;nofun;refine⟨∅,?_⟩;nofun;refine⟨∅,?_⟩;nofun;refine⟨∅,?_⟩;nofun;refine⟨∅,?_⟩;nofun;refine⟨∅,?_⟩;nofun;refine⟨∅,?_⟩;nofun;exact⟨hm.1,_,l,rfl,CO _ ∅,CH _ hm.1,hl,rfl⟩
def WA(M:ag)(w:Nat)(T:Int):Prop:=∃c l t,M[w]?=some (fW c l t)/\0<=l/\0<=t/\t<=T
theorem WA.lt{M:ag}{w:Nat}{T:Int}(h:WA M w T):w<M.length:=by obtain⟨c,l,t,h,_⟩:=h;exact aV h
theorem WA.app{M X:ag}{w:Nat}{T:Int}(h:WA M w T):WA (M++X) w T:=by obtain⟨c,l,t,h,q⟩:=h;exact⟨c,l,t,aW h,q⟩
theorem WA.set{M:ag}{w n:Nat}{T:Int}{o:MO}(h:WA M w T)(k:w≠n):WA (M.set n o) w T:=by obtain⟨c,l,t,h,q⟩:=h;exact⟨c,l,t,bw h k,q⟩
theorem WA.mono{M:ag}{w:Nat}{T T2:Int}(h:WA M w T)(k:T<=T2):WA M w T2:=by obtain⟨c,l,t,h,a,b,q⟩:=h;exact⟨c,l,t,h,a,b,Int.le_trans q k⟩
theorem WA.fr{M M1:ag}{w v:Nat}{T:Int}(h:WA M w T)(f:Fr v M M1)(k:w≠v):WA M1 w T:=by obtain⟨c,l,t,h,q⟩:=h;exact⟨c,l,t,f.get h k,q⟩
section
variable {M:ag} {n:Nat} {ds:List D} {i:Int} {x:D}
theorem ma{P:D->Prop}{k:Nat}(h:∀d∈ds,P d)(h0:0<=i)(h1:i<k)(hk:k=ds.length):∃d,ds[i.toNat]?=some d/\P d:=by
 have hl:i.toNat<ds.length:=∅;exact⟨ds[i.toNat],cE hl,h _ (qE hl)⟩
end
def dO(F:Fn):Prop:=∀(M:ag)(w:Nat)(T kr:Int),WA M w T->T<2 ^ 40->0<kr->kr<1073741824->aG (F [.aD w,.int kr] M) λr M'=>∃i,r=.d (.int i)/\0<=i/\i<kr/\WA M' w (T+1)/\Fr w M M'
theorem JK{G:bc}:dO (ah G 6 wj):=by
 intro M w T kr ⟨c,l,t,h,hl,h0,h1⟩ hT hm Wu;refine(EV h ⟨h0,∅⟩ hl ⟨hm,Wu⟩).imp ?_;rintro r M' ⟨i,l',e,a,b,Rq,rfl⟩;exact⟨i,e,a,b,⟨c,l',t+1,bH h,Rq,∅,∅⟩,(Fr.refl w M).R7⟩
def nU(F:Fn):Prop:=∀(M:ag)(ns:List Int)(k:Int),0<=k->k<2 ^ 40->ns.length<=63->aG (F [.ls (ns.map D.int),.int k] M) λr M'=>r=.d (.aD M.length)/\M'.length=M.length+1/\WA M' M.length 0/\Fr M.length M M'
theorem NU{G:bc}:nU (ah G 3 Br):=by
 intro M ns k hk Y9 ko;rw[bo];show dB G Br [some (.ls (ns.map D.int)),some (.int k),none] M _ _ _ _
 have fin:∀(c:Int)(b:Bool),WA (M++[MO.dK ((List.map Sum.inr [(("cell" : Str)),"left","turn"]).zip [D.int c,D.int ((if c>0 then c else 0)*if b=true then 1 else 0),D.int 0])]) M.length 0:=by
  intro c b;refine⟨c,_,0,aA,?_,tm _,tm _⟩;refine Int.mul_nonneg ?_ ?_<;>split<;>omega
 have hb:∀b:Bool,(-(2 ^ 64):Int)<(if b=true then 1 else 0)/\(if b=true then 1 else 0)<(2 ^ 64:Int):=λb=>by split<;>omega
 have aY:∀x:MO,(M++[x]).length=M.length+1:=λx=>by simp
 nofun;refine⟨∅,?_⟩;nofun;by_cases hp:(0:Int)<(ns.map D.int).length
 ·rw[e5 hp];have hl:(ns.map D.int).length=ns.length:=aE _;have hr:0<=k % ((ns.map D.int).length:Int):=CO _ ∅;have Pj:k % ((ns.map D.int).length:Int)<((ns.map D.int).length:Int):=CH _ hp;have lu:(k % ((ns.map D.int).length:Int)).toNat<ns.length:=∅
  have hg:(ns.map D.int)[(k % ((ns.map D.int).length:Int)).toNat]?=some (.int ns[(k % ((ns.map D.int).length:Int)).toNat]):=by
   rw[dz,cE lu];rfl
  nofun;refine⟨∅,?_⟩;nofun;rw[JI hr hg];nofun;refine⟨⟨∅,∅⟩,?_⟩;nofun;refine⟨.inl ∅,?_⟩;nofun;refine⟨.inr (hb _),?_⟩;nofun;exact⟨rfl,rfl,aY _,fin _ _,(Fr.refl _ M).app⟩
 ·rw[eh hp];nofun;refine⟨.inr (hb _),?_⟩;nofun;exact⟨rfl,rfl,aY _,fin _ _,(Fr.refl _ M).app⟩
noncomputable def nV(m:Int)(d:D):Prop:=∃a b k,d=.tup [.int a,.int b,.str k]/\0<=a/\a<m/\0<=b/\b<m/\a≠b/\(k = "row" \/ k = "heap")
def uy(F:Fn):Prop:=∀(M:ag)(w:Nat)(T m:Int),WA M w T->T<2 ^ 39->1<=m->m<=4->aG (F [.aD w,.int m] M) λr M'=>∃ds,r=.d (.tup ds)/\ds.length<=8/\(∀d∈ds,nV m d)/\WA M' w (T+100)/\Fr w M M'
theorem JL{G:bc}{ar:Nat}(hD:dO (G ar)):uy (ah G 7 (uu ar)):=by
 intro M w T m hw hT T1 F8;have Dw:=hw.lt;rw[bo];show dB G (uu ar) [some (.aD w),some (.int m),none,none,none,none,none] M _ _ _ _;nofun;refine⟨(show(0:Nat)<=sizeLine by decide),?_⟩;nofun;by_cases hm:1<m
 ·rw[e5 hm];have h0:(M++[MO.lst []])[M.length]?=some (.lst []):=aA;nofun;refine(hD _ w T 4 hw.app ∅ ∅ ∅).imp ?_;rintro r M1 ⟨i1,rfl,NV,Pw,Bx,f1⟩;nofun;refine(hD _ w _ 5 Bx ∅ ∅ ∅).imp ?_;rintro r M2 ⟨i2,rfl,Px,R8,uA,f2⟩;nofun;refine⟨(show(3:Nat)<=sizeLine by decide),?_⟩;have h2:M2[M.length]?=some (.lst []):=f2.get (f1.get h0 ∅) ∅;have l2:=aV h2;nofun;refine(hD _ w _ 9 uA.app ∅ ∅ ∅).imp ?_;rintro r M3 ⟨i3,rfl,Wv,Ww,wm,f3⟩;nofun;refine⟨⟨∅,∅⟩,?_⟩;have h3:M3[M.length]?=some (.lst []):=f3.get (aW h2) ∅;have R9:M3[M2.length]?=some (.lst [.int i1,.int (1+i2),.int 8]):=f3.get aA ∅;have C4:Fr w M M3:=(((Fr.refl w M).app.trans f1).trans f2).app.trans f3
  obtain⟨d,hd,j,e,Py,Wx⟩:=ma (P:=λd=>∃j:Int,d=.int j/\0<=j/\j<=8) (ds:=[.int i1,.int (1+i2),.int 8]) (i:=i3 / 4) (k:=3) (by
   intro d hd;simp only[bS,gm,fh]at hd;rcases hd with rfl | rfl | rfl
   ·exact⟨_,rfl,∅,∅⟩
   ·exact⟨_,rfl,∅,∅⟩
   ·exact⟨_,rfl,∅,∅⟩) ∅ ∅ rfl
  subst e;nofun;rw[bh R9 (show(0:Int)<=i3 / 4 by omega) hd];nofun;refine⟨⟨∅,∅⟩,?_⟩;refine j6 (n:=j.toNat) (λi ρ M'=>∃ds o4 o5 o6,ρ=[some (.aD w),some (.int m),some (.aD M.length),some (.aD M2.length),o4,o5,o6]/\M'[M.length]?=some (.lst ds)/\ds.length=i/\(∀d∈ds,nV m d)/\WA M' w (T+3+3*i)/\Fr w M M') ⟨[],none,none,none,rfl,h3,rfl,(by intro d h;cases h),wm.mono ∅,C4⟩ ?_ ?_
  ·rintro i ρ M4 hi ⟨ds,o4,o5,o6,rfl,h4,pI,mX,j7,kK⟩;have Wy:(i:Int)<8:=∅;have NW:=aV h4;nofun;refine(hD _ w _ m j7 ∅ ∅ ∅).imp ?_;rintro r M5 ⟨i5,rfl,NX,Pz,mY,f5⟩;nofun;refine(hD _ w _ (m-1) mY ∅ ∅ ∅).imp ?_;rintro r M6 ⟨i6,rfl,KQ,NY,mh,f6⟩;nofun;have h6:M6[M.length]?=some (.lst ds):=f6.get (f5.get h4 ∅) ∅;refine⟨∅,?_⟩;nofun;refine⟨dX h6,?_⟩;nofun;refine⟨(show(2:Nat)<=sizeLine by decide),?_⟩;nofun;refine(hD _ w _ 2 mh ∅ ∅ ∅).imp ?_;rintro r M7 ⟨i7,rfl,NZ,R_,F9,f7⟩
   obtain⟨k,hk,k',e,DC⟩:=ma (P:=λd=>∃k:Str,d=.str k/\(k = "row" \/ k = "heap")) (ds:=[.str "row",.str "heap"]) (i:=i7) (k:=2) (by
    intro d hd;simp only[bS,gm,fh]at hd;rcases hd with rfl | rfl
    ·exact⟨_,rfl,.inl rfl⟩
    ·exact⟨_,rfl,.inr rfl⟩) NZ R_ rfl
   subst e;nofun;rw[pQ NZ hk];nofun;refine⟨(show(3:Nat)<=sizeLine by decide),?_⟩;have h7:M7[M.length]?=some (.lst ds):=f7.get h6 ∅;nofun;rw[fy h7 (bE ∅)];refine⟨ds++[.tup [.int i5,.int ((i5+1+i6) % m),.str k']],_,_,_,rfl,bH h7,by simp[pI],?_,?_,?_⟩
   ·intro d hd;rcases fX.mp hd with q | q
    ·exact mX d q
    ·have:d=.tup [.int i5,.int ((i5+1+i6) % m),.str k']:=by simpa using q
     subst this;have PB:m=2\/m=3\/m=4:=∅;refine⟨_,_,_,rfl,NX,Pz,CO _ ∅,CH _ ∅,?_,DC⟩;rcases PB with rfl | rfl | rfl<;>omega
   ·exact(F9.set ∅).mono ∅
   ·exact(((kK.trans f5).trans f6).trans f7).set (aL _)
  ·rintro ρ M4 ⟨ds,o4,o5,o6,rfl,h4,pI,mX,j7,kK⟩;nofun;rw[bR h4];exact⟨ds,rfl,∅,mX,j7.mono ∅,kK⟩
 ·rw[eh hm];nofun;rw[bR aA];exact⟨[],rfl,by decide,(by intro d h;cases h),hw.app.mono ∅,(Fr.refl w M).app⟩
def uB(d:D):Prop:=∃i:Int,d=.int i/\0<=i/\i<100
theorem F_{M:ag}:∀{ds:List D},(∀d∈ds,uB d)->∃qs,bC M 30 ds=some qs/\qs.all SeqAt.shaped=true
 | [],_=>⟨[],by unfold bC;rfl,rfl⟩
 | d::ds,h=>by
  obtain⟨i,rfl,_,_⟩:=h d (eg ..);obtain⟨qs,e,k⟩:=F_ (M:=M) (ds:=ds) λd hd=>h d (dC _ hd);refine⟨.int i::qs,by unfold bC;rw[e];unfold cM;rfl,?_⟩;rw[List.all_cons,iE,k];rfl
theorem By{M:ag}{n:Nat}{ds:List D}{d:D}(hM:M[n]?=some (.lst ds))(h:∀d∈ds,uB d)(hd:uB d):∃b,bg .eJ (.d d) (.d (.aD n)) M=.ok b M:=by
 obtain⟨i,rfl,_,_⟩:=hd;obtain⟨qs,e,k⟩:=F_ (M:=M) h;refine⟨!jH (.int i) qs,?_⟩;unfold bg;have h1:iH M (.d (.int i))=some (.int i):=by show cM M 30 (.int i)=_;unfold cM;rfl
 have h2:bN M (.d (.aD n))=some (true,ds):=by unfold bN;simp only[hM]
 simp only[h1,h2,e,iE,k,jv,dD]
def kL(F:Fn):Prop:=∀(M:ag)(w:Nat)(T:Int),WA M w T->T<2 ^ 39->aG (F [.aD w] M) λr M'=>∃n ds,r=.d (.aD n)/\M.length<=n/\M'[n]?=some (.lst ds)/\1<=ds.length/\ds.length<=7/\(∀d∈ds,uB d)/\WA M' w (T+100)/\Fr w M M'
theorem EW{G:bc}{ar:Nat}(hD:dO (G ar)):kL (ah G 5 (pT ar)):=by
 intro M w T hw hT;have Dw:=hw.lt;rw[bo];show dB G (pT ar) [some (.aD w),none,none,none,none] M _ _ _ _;nofun;refine(hD _ w T 100 hw ∅ ∅ ∅).imp ?_;rintro r M1 ⟨i1,rfl,NV,Pw,Bx,f1⟩;nofun;refine⟨(show(1:Nat)<=sizeLine by decide),?_⟩;have l1:=f1.1;nofun;refine(hD _ w _ 3 Bx.app ∅ ∅ ∅).imp ?_;rintro r M2 ⟨i2,rfl,Px,R8,uA,f2⟩;nofun;refine⟨(show(2:Nat)<=sizeLine by decide),?_⟩;have h2:M2[M1.length]?=some (.lst [.int i1]):=f2.get aA ∅;have l2:=aV h2;nofun;refine(hD _ w _ 16 uA.app ∅ ∅ ∅).imp ?_;rintro r M3 ⟨i3,rfl,Wv,Ww,wm,f3⟩;nofun;refine⟨⟨∅,∅⟩,?_⟩;have h3:M3[M1.length]?=some (.lst [.int i1]):=f3.get (aW h2) ∅;have R9:M3[M2.length]?=some (.lst [.int i2,.int 6]):=f3.get aA ∅;have C4:Fr w M M3:=(f1.app.trans f2).app.trans f3
 obtain⟨d,hd,j,e,Py,Wx⟩:=ma (P:=λd=>∃j:Int,d=.int j/\0<=j/\j<=6) (ds:=[.int i2,.int 6]) (i:=i3 / 15) (k:=2) (by
  intro d hd;simp only[bS,gm,fh]at hd;rcases hd with rfl | rfl
  ·exact⟨_,rfl,∅,∅⟩
  ·exact⟨_,rfl,∅,∅⟩) ∅ ∅ rfl
 subst e;nofun;rw[bh R9 (show(0:Int)<=i3 / 15 by omega) hd];nofun;refine⟨⟨∅,∅⟩,?_⟩
 have Sa:∀d∈[D.int i1],uB d:=by
  intro d h;have:d=.int i1:=by simpa using h
  subst this;exact⟨_,rfl,NV,Pw⟩
 refine j6 (n:=j.toNat) (λi ρ M'=>∃ds o3 o4,ρ=[some (.aD w),some (.aD M1.length),some (.aD M2.length),o3,o4]/\M'[M1.length]?=some (.lst ds)/\1<=ds.length/\ds.length<=i+1/\(∀d∈ds,uB d)/\WA M' w (T+3+2*i)/\Fr w M M') ⟨[.int i1],none,none,rfl,h3,aL _,aL _,Sa,wm.mono ∅,C4⟩ ?_ ?_
 ·rintro i ρ M4 hi ⟨ds,o3,o4,rfl,h4,JM,pI,mX,j7,kK⟩;have Wy:(i:Int)<6:=∅;have NW:=aV h4;nofun;refine(hD _ w _ 100 j7 ∅ ∅ ∅).imp ?_;rintro r M5 ⟨i5,rfl,NX,Pz,mY,f5⟩;nofun;refine⟨(show(2:Nat)<=sizeLine by decide),?_⟩;nofun;refine(hD _ w _ 2 mY ∅ ∅ ∅).imp ?_;rintro r M6 ⟨i6,rfl,KQ,NY,mh,f6⟩
  obtain⟨d,hd,e6⟩:=ma (P:=uB) (ds:=[.int i5,.int (0+i)]) (i:=i6) (k:=2) (by
   intro d hd;simp only[bS,gm,fh]at hd;rcases hd with rfl | rfl
   ·exact⟨_,rfl,∅,∅⟩
   ·exact⟨_,rfl,∅,∅⟩) KQ NY rfl
  nofun;rw[pQ KQ hd];have h6:M6[M1.length]?=some (.lst ds):=f6.get (f5.get h4 ∅) ∅;nofun;obtain⟨b,hb⟩:=By h6 mX e6;rw[hb]
  cases b with
  | false=>exact⟨ds,_,_,rfl,h6,JM,∅,mX,mh.mono ∅,(kK.trans f5).trans f6⟩
  | true =>
   nofun;refine⟨dX h6,?_⟩;nofun;rw[fy h6 (bE ∅)];refine⟨ds++[d],_,_,rfl,bH h6,by simp,by simp;omega,?_,(mh.set ∅).mono ∅,((kK.trans f5).trans f6).set ∅⟩;intro x hx;rcases fX.mp hx with q | q
   ·exact mX x q
   ·have:x=d:=by simpa using q
    subst this;exact e6
 ·rintro ρ M4 ⟨ds,o3,o4,rfl,h4,JM,pI,mX,j7,kK⟩;exact⟨_,ds,rfl,l1,h4,JM,∅,mX,j7.mono ∅,kK⟩
noncomputable def wq(P:Int->Prop)(d:D):Prop:=∃r c,d=.tup [.int r,.str c]/\P r/\(c = "a" \/ c = "b" \/ c = "c" \/ c = "z")
theorem JN{M:ag}{i:Int}(h0:0<=i)(h1:i<4):∃c,cW (.d (.str "abcz")) (.d (.int i)) M=.ok (.d (.str c)) M/\(c = "a" \/ c = "b" \/ c = "c" \/ c = "z"):=by
 have:i=0\/i=1\/i=2\/i=3:=∅;rcases this with rfl | rfl | rfl | rfl
 ·exact⟨"a",rfl,.inl rfl⟩
 ·exact⟨"b",rfl,.inr (.inl rfl)⟩
 ·exact⟨"c",rfl,.inr (.inr (.inl rfl))⟩
 ·exact⟨"z",rfl,.inr (.inr (.inr rfl))⟩
def uC(F:Fn):Prop:=∀(P:Int->Prop)(M:ag)(w nw:Nat)(T:Int)(cG:List D),WA M w T->T<2 ^ 39+10000->M[nw]?=some (.lst cG)->nw≠w->(∀d∈cG,∃r,d=.int r/\P r)->cG.length<=100 ->
 aG (F [.aD w,.aD nw] M) λr M'=>∃ds,r=.d (.tup ds)/\ds.length<=3/\(∀d∈ds,wq P d)/\WA M' w (T+20)/\Fr w M M'
theorem JO{G:bc}{ar:Nat}(hD:dO (G ar)):uC (ah G 5 (uw ar)):=by
 intro P M w nw T cG hw hT hn vO hP N0;have Dw:=hw.lt;have KR:=aV hn;rw[bo];show dB G (uw ar) [some (.aD w),some (.aD nw),none,none,none] M _ _ _ _;nofun;refine⟨(show(0:Nat)<=sizeLine by decide),?_⟩;nofun;refine⟨(show(7:Nat)<=sizeLine by decide),?_⟩;nofun;refine(hD _ w T 7 hw.app ∅ ∅ ∅).imp ?_;rintro r M1 ⟨i1,rfl,NV,Pw,Bx,f1⟩
 obtain⟨d,hd,j,e,Py,T3⟩:=ma (P:=λd=>∃j:Int,d=.int j/\0<=j/\j<=3) (ds:=[.int 0,.int 0,.int 1,.int 1,.int 1,.int 2,.int 3]) (i:=i1) (k:=7) (by
  intro d hd;simp only[bS,gm,fh]at hd;rcases hd with rfl | rfl | rfl | rfl | rfl | rfl | rfl<;>exact⟨_,rfl,∅,∅⟩) NV Pw rfl
 subst e;nofun;rw[pQ NV hd];have h1:M1[nw]?=some (.lst cG):=f1.get (aW hn) vO;have ho:M1[M.length]?=some (.lst []):=f1.get aA ∅;have Wz:Fr w M M1:=(Fr.refl w M).app.trans f1;nofun;rw[fS h1];nofun;refine⟨.inl ∅,?_⟩
 have hj:0<=j*(if decide ((0:Int)<cG.length)=true then 1 else 0)/\j*(if decide ((0:Int)<cG.length)=true then 1 else 0)<=3/\(0<j*(if decide ((0:Int)<cG.length)=true then 1 else 0)->(0:Int)<cG.length):=by
  by_cases q:(0:Int)<cG.length
  ·simp only[e5 q,dD,Int.mul_one];exact⟨Py,T3,λ_=>q⟩
  ·simp only[eh q];simp
 generalize Sb:j*(if decide ((0:Int)<cG.length)=true then 1 else 0)=jj at hj;obtain⟨Py,T3,WB⟩:=hj;have N1:j*(if decide ((cG.length:Int)>0)=true then 1 else 0)=jj:=Sb;nofun;refine⟨⟨by first | omega | (rw[N1];omega) | (show _<=j*(if decide ((0:Int)<cG.length)=true then 1 else 0);rw[Sb];omega),by first | omega | (rw[N1];omega) | (show j*(if decide ((0:Int)<cG.length)=true then 1 else 0)<_;rw[Sb];omega)⟩,?_⟩;refine j6 (n:=jj.toNat) (λi ρ M'=>∃ds o3 o4,ρ=[some (.aD w),some (.aD nw),some (.aD M.length),o3,o4]/\M'[M.length]?=some (.lst ds)/\ds.length=i/\(∀d∈ds,wq P d)/\WA M' w (T+1+2*i)/\Fr w M M') ⟨[],none,none,rfl,ho,rfl,(by intro d h;cases h),Bx.mono ∅,Wz⟩ ?_ ?_
 ·rintro i ρ M4 hi ⟨ds,o3,o4,rfl,h4,pI,mX,j7,kK⟩;have WC:(0:Int)<cG.length:=WB ∅;have N3:M4[nw]?=some (.lst cG):=kK.get hn vO;nofun;rw[fS N3];nofun;refine(hD _ w _ _ j7 ∅ WC ∅).imp ?_;rintro r M5 ⟨i5,rfl,NX,Pz,mY,f5⟩;have WD:M5[nw]?=some (.lst cG):=f5.get N3 vO;obtain⟨d,hd,r,e,WE⟩:=ma (ds:=cG) (i:=i5) (k:=cG.length) hP NX Pz rfl;subst e;nofun;rw[bh WD NX hd];have h5:M5[M.length]?=some (.lst ds):=f5.get h4 ∅;nofun;refine⟨dX h5,?_⟩;nofun;refine(hD _ w _ 4 mY ∅ ∅ ∅).imp ?_;rintro r6 M6 ⟨i6,rfl,KQ,NY,mh,f6⟩;obtain⟨c,hc,zd⟩:=JN (M:=M6) KQ NY;nofun;rw[hc];nofun;refine⟨(show(2:Nat)<=sizeLine by decide),?_⟩;have h6:M6[M.length]?=some (.lst ds):=f6.get h5 ∅;nofun;rw[fy h6 (bE ∅)];refine⟨ds++[.tup [.int r,.str c]],_,_,rfl,bH h6,by simp[pI],?_,(mh.set ∅).mono ∅,((kK.trans f5).trans f6).set (aL _)⟩;intro x hx;rcases fX.mp hx with q | q
  ·exact mX x q
  ·have:x=.tup [.int r,.str c]:=by simpa using q
   subst this;exact⟨_,_,rfl,WE,zd⟩
 ·rintro ρ M4 ⟨ds,o3,o4,rfl,h4,pI,mX,j7,kK⟩;nofun;rw[bR h4];exact⟨ds,rfl,∅,mX,j7.mono ∅,kK⟩
def wt(d:D):Prop:=d=.aJ\/∃x:Str,d=.str x/\(x = "x" \/ x = "yes" \/ x = "abcdefgh" \/ x = "own" \/ x = "a")
def Bz(d:D):Prop:=∃x:Str,d=.str x/\(x = "own" \/ x = "a" \/ x = "b" \/ x = "z")
def jg(P:Int->Prop)(d:D):Prop:=∃s c a sends wd,d=.tup [s,c,a,.tup sends,wd]/\uB s/\Bz c/\uB a/\sends.length<=3/\(∀x∈sends,wq P x)/\wt wd
def pV(F:Fn):Prop:=∀(P:Int->Prop)(M:ag)(w ns nw:Nat)(T:Int)(wu cG:List D),WA M w T->T<2 ^ 39->M[ns]?=some (.lst wu)->ns≠w->M[nw]?=some (.lst cG)->nw≠w->(∀d∈wu,uB d)->1<=wu.length->wu.length<=7->(∀d∈cG,∃r,d=.int r/\P r)->cG.length<=100 ->
 aG (F [.aD w,.aD ns,.aD nw] M) λr M'=>∃ds,r=.d (.tup ds)/\ds.length<=28/\(∀d∈ds,jg P d)/\WA M' w (T+1000)/\Fr w M M'
theorem JP{G:bc}{ar l_:Nat}(hD:dO (G ar))(hS:uC (G l_)):pV (ah G 11 (ux ar l_)):=by
 intro P M w ns nw T sm cG hw hT hs Mq hn vO e6 T4 T5 hP N0;have Dw:=hw.lt;have KR:=aV hn;have xZ:=aV hs;rw[bo];show dB G (ux ar l_) [some (.aD w),some (.aD ns),some (.aD nw),none,none,none,none,none,none,none,none] M _ _ _ _;nofun;refine⟨(show(8:Nat)<=sizeLine by decide),?_⟩;nofun;refine⟨(show(0:Nat)<=sizeLine by decide),?_⟩;have WG:((M++[MO.lst [.aJ,.aJ,.aJ,.str "x",.str "yes",.str "abcdefgh",.str "own",.str "a"]])++[MO.lst []])[ns]?=some (.lst sm):=aW (aW hs)
 have WH:∀d∈[D.aJ,.aJ,.aJ,.str "x",.str "yes",.str "abcdefgh",.str "own",.str "a"],wt d:=by
  intro d hd;simp only[bS,gm,fh]at hd;rcases hd with rfl | rfl | rfl | rfl | rfl | rfl | rfl | rfl
  ·exact .inl rfl
  ·exact .inl rfl
  ·exact .inl rfl
  ·exact .inr ⟨_,rfl,.inl rfl⟩
  ·exact .inr ⟨_,rfl,.inr (.inl rfl)⟩
  ·exact .inr ⟨_,rfl,.inr (.inr (.inl rfl))⟩
  ·exact .inr ⟨_,rfl,.inr (.inr (.inr (.inl rfl)))⟩
  ·exact .inr ⟨_,rfl,.inr (.inr (.inr (.inr rfl)))⟩
 have WI:((M++[MO.lst [.aJ,.aJ,.aJ,.str "x",.str "yes",.str "abcdefgh",.str "own",.str "a"]])++[MO.lst []])[M.length]?=some (.lst [.aJ,.aJ,.aJ,.str "x",.str "yes",.str "abcdefgh",.str "own",.str "a"]):=aW aA
 have WJ:((M++[MO.lst [.aJ,.aJ,.aJ,.str "x",.str "yes",.str "abcdefgh",.str "own",.str "a"]])++[MO.lst []])[M.length+1]?=some (.lst []):=by
  have:=aA (M:=M++[MO.lst [.aJ,.aJ,.aJ,.str "x",.str "yes",.str "abcdefgh",.str "own",.str "a"]]) (o:=MO.lst []);simpa using this
 have aY:(M++[MO.lst [.aJ,.aJ,.aJ,.str "x",.str "yes",.str "abcdefgh",.str "own",.str "a"]]).length=M.length+1:=by simp
 nofun;rw[aY];generalize WK:([.aJ,.aJ,.aJ,.str "x",.str "yes",.str "abcdefgh",.str "own",.str "a"]:List D)=WW at *;have WL:WW.length=8:=by rw[<- WK];rfl
 rw[fT WG]
 refine NS (n:=ns) (ds:=sm) (λi ρ M'=>∃ds o5 o6 o7 o8 o9 wz,ρ=[some (.aD w),some (.aD ns),some (.aD nw),some (.aD M.length),some (.aD (M.length+1)),o5,o6,o7,o8,o9,wz]/\M'[M.length]?=some (.lst WW)/\M'[M.length+1]?=some (.lst ds)/\ds.length<=4*i/\(∀d∈ds,jg P d)/\WA M' w (T+100*i)/\Fr w M M')
  (by rintro i ρ M' ⟨ds,_,_,_,_,_,_,_,_,_,_,_,_,f⟩;exact f.get hs Mq) ⟨[],none,none,none,none,none,none,rfl,WI,WJ,xf _,(by intro d h;cases h),(hw.app.app).mono ∅,((Fr.refl w M).app).app⟩ ?_ ?_
 ·rintro i ρ M4 d hd ⟨ds,o5,o6,o7,o8,o9,wz,rfl,T6,h4,pI,mX,j7,kK⟩;have hi:i<sm.length:=(bV.mp hd).1;have WM:uB d:=e6 d (gQ hd);nofun;refine⟨(show(4:Nat)<=sizeLine by decide),?_⟩
  refine je (ds:=[.str "own",.str "a",.str "b",.str "z"]) (λj ρ M'=>∃ds o6 o7 o8 o9 wz,ρ=[some (.aD w),some (.aD ns),some (.aD nw),some (.aD M.length),some (.aD (M.length+1)),some d,o6,o7,o8,o9,wz]/\M'[M.length]?=some (.lst WW)/\M'[M.length+1]?=some (.lst ds)/\ds.length<=4*i+j/\(∀d∈ds,jg P d)/\WA M' w (T+100*i+25*j)/\Fr w M M')
   ⟨ds,o6,o7,o8,o9,wz,rfl,T6,h4,∅,mX,j7.mono ∅,kK⟩ ?_ ?_
  ·rintro j ρ M5 c hc ⟨ds,o6,o7,o8,o9,wz,rfl,PC,h5,DE,PD,mY,oN⟩;have hj:j<4:=(bV.mp hc).1
   have WN:Bz c:=by
    have hm:=gQ hc;simp only[bS,gm,fh]at hm;rcases hm with rfl | rfl | rfl | rfl
    ·exact⟨_,rfl,.inl rfl⟩
    ·exact⟨_,rfl,.inr (.inl rfl)⟩
    ·exact⟨_,rfl,.inr (.inr (.inl rfl))⟩
    ·exact⟨_,rfl,.inr (.inr (.inr rfl))⟩
   nofun;refine(hD _ w _ 4 mY ∅ ∅ ∅).imp ?_;rintro r6 M6 ⟨i6,rfl,KQ,NY,mh,f6⟩;nofun;by_cases hp:0<i6
   ·rw[e5 hp];have T7:Fr w M M6:=oN.trans f6;have WO:M6[ns]?=some (.lst sm):=T7.get hs Mq;nofun;rw[fS WO];nofun;refine(hD _ w _ _ mh ∅ ∅ ∅).imp ?_;rintro r7 M7 ⟨i7,rfl,NZ,R_,F9,f7⟩;have DF:Fr w M M7:=T7.trans f7;obtain⟨a,ha,WQ⟩:=ma (P:=uB) (ds:=sm) (i:=i7) (k:=sm.length) e6 NZ R_ rfl;nofun;rw[bh (DF.get hs Mq) NZ ha];nofun;refine(hS P M7 w nw _ cG F9 ∅ (DF.get hn vO) vO hP N0).imp ?_;rintro r8 M8 ⟨sd,rfl,Se,mj,N4,f8⟩;have WR:Fr w M M8:=DF.trans f8;nofun;refine(hD _ w _ 8 N4 ∅ ∅ ∅).imp ?_;rintro r9 M9 ⟨i9,rfl,T8,WS,PF,f9⟩;have WT:Fr w M M9:=WR.trans f9;have T9:M9[M.length]?=some (.lst WW):=f9.get (f8.get (f7.get (f6.get PC ∅) ∅) ∅) ∅;have h9:M9[M.length+1]?=some (.lst ds):=f9.get (f8.get (f7.get (f6.get h5 ∅) ∅) ∅) ∅;obtain⟨wd,Sf,Sg⟩:=ma (P:=wt) (ds:=WW) (i:=i9) (k:=8) WH T8 WS WL.symm;nofun;rw[bh T9 T8 Sf];nofun;rw[fS h9];nofun;refine(hD _ w _ _ PF ∅ ∅ ∅).imp ?_;rintro rA MA ⟨iA,rfl,WU,Y_,WV,fA⟩;have WX:Fr w M MA:=WT.trans fA;have hA:MA[M.length+1]?=some (.lst ds):=fA.get h9 ∅;nofun;refine⟨dX hA,?_⟩;nofun;refine⟨(show(5:Nat)<=sizeLine by decide),?_⟩;nofun;rw[sh hA (bE ∅) WU ∅];refine⟨ds.take iA.toNat++.tup [d,c,a,.tup sd,wd]::ds.drop iA.toNat,_,_,_,_,_,rfl,bw (fA.get T9 ∅) ∅,bH hA,?_,?_,(WV.set ∅).mono ∅,WX.set ∅⟩
    ·rw[fB,kW,iI,CL];omega
    ·intro x hx
     have hx:x=.tup [d,c,a,.tup sd,wd]\/x∈ds:=by
      rcases fX.mp hx with q | q
      ·exact .inr (wU q)
      ·rcases bS.mp q with q | q
       ·exact .inl q
       ·exact .inr (List.mem_of_mem_drop q)
     rcases hx with rfl | hx
     ·exact⟨_,_,_,_,_,rfl,WM,WN,WQ,Se,mj,Sg⟩
     ·exact PD x hx
   ·rw[eh hp];exact⟨ds,_,_,_,_,_,rfl,f6.get PC ∅,f6.get h5 ∅,∅,PD,mh.mono ∅,oN.trans f6⟩
  ·rintro ρ M5 ⟨ds,o6,o7,o8,o9,wz,rfl,PC,h5,DE,PD,mY,oN⟩;have e4:[D.str "own",D.str "a",D.str "b",D.str "z"].length=4:=rfl;rw[e4]at DE mY;exact⟨ds,_,_,_,_,_,_,rfl,PC,h5,∅,PD,mY.mono ∅,oN⟩
 ·rintro ρ M4 ⟨ds,o5,o6,o7,o8,o9,wz,rfl,T6,h4,pI,mX,j7,kK⟩;nofun;rw[bR h4];exact⟨ds,rfl,∅,mX,j7.mono ∅,kK⟩
noncomputable def pW(aZ:List D)(m:Nat)(r:Int):Prop:=0<=r/\∃b k,aZ[r.toNat]?=some (.tup [.int m,b,k])
def BA(aZ:List D)(m:Nat)(d:D):Prop:=∃st cq,d=.tup [st,.tup cq]/\uB st/\cq.length<=28/\∀y∈cq,jg (pW aZ m) y
def Ga(d:D):Prop:=∃bp aZ,d=.tup [.tup bp,.tup aZ]/\1<=bp.length/\bp.length<=4/\aZ.length<=8/\(∀x∈aZ,nV bp.length x)/\∀m x,bp[m]?=some x->BA aZ m x
def BB(F:Fn):Prop:=∀(M:ag)(ns:List Int),ns.length<=63->aG (F [.ls (ns.map D.int)] M) λr M'=>∃d,r=.d d/\Ga d/\Fr M.length M M'
theorem Fr.none{w:Nat}{M M1 M2:ag}(a:Fr M.length M M1)(b:Fr w M1 M2)(h:M.length<=w):Fr M.length M M2:=⟨cJ a.1 b.1,λn hn k=>(b.2 n (eZ hn a.1) ∅).trans (a.2 n hn k)⟩
theorem BC{m:Int}{aZ:List D}{i:Nat}(h:∀x∈aZ,nV m x)(hi:i<aZ.length):∃a b k,aZ[i]?=some (.tup [.int a,.int b,.str k]):=by
 obtain⟨a,b,k,e,_⟩:=h aZ[i] (qE hi);exact⟨a,b,k,by rw[cE hi,e]⟩
noncomputable def wA:C:=.comp .fJ [.bi .len [.fK 3]] [1] (some (.val (.cmp .eq (.sub (.sub 3 1) (.kn 0)) 2))) 1 [none,none,some 5,some 3]
theorem EY{G:bc}{ρ:En}{M:ag}{m:Int}{i:Nat}{aZ:List D}{P:W->ag->Prop}(h5:ρ[5]?=some (some (.int i)))(h3:ρ[3]?=some (some (.tup aZ)))(N5:aZ.length<=8)(Dx:∀x∈aZ,nV m x)(q:∀cG,cG.length<=8->(∀d∈cG,∃r,d=.int r/\pW aZ i r)->P (.lv cG) M):wE G wA ρ M P:=by
 unfold wA;nofun;rw[h3];nofun;refine⟨⟨∅,∅⟩,?_⟩;rw[show ef [none,none,some 5,some 3] ρ=[none,none,some (.int i),some (.tup aZ)] by unfold ef;simp only[fC,mP,Option.bind_none,Option.bind_some,h5,h3,Option.join_some]];refine NT (n:=(aZ.length:Int).toNat) (λk M' acc=>M=M'/\acc.length<=k/\∀d∈acc,∃r,d=.int r/\pW aZ i r) (by decide) ⟨rfl,aL _,(by intro d h;cases h)⟩ ?_ ?_
 ·rintro k M7 acc hk ⟨rfl,Kz,KS⟩;have DC:k<aZ.length:=∅;refine⟨bE ∅,?_⟩;obtain⟨a,b,kk,WY⟩:=BC Dx DC;have N6:aZ[((0:Int)+(k:Nat)).toNat]?=some (.tup [.int a,.int b,.str kk]):=by rw[show((0:Int)+(k:Nat)).toNat=k by omega];exact WY
  nofun;rw[kI (show(0:Int)<=0+(k:Nat) by omega) N6];nofun
  cases q:(a==(i:Int))with
  | true =>
   have q:a=i:=by simpa using q
   subst q;refine⟨rfl,by simp;omega,?_⟩;intro d hd;rcases fX.mp hd with z | z
   ·exact KS d z
   ·have:d=.int (0+k):=by simpa using z
    subst this;exact⟨_,rfl,∅,.int b,.str kk,N6⟩
  | false=>exact⟨rfl,∅,KS⟩
 ·rintro M7 cG ⟨rfl,Kz,KS⟩;exact q cG ∅ KS
def Gb(c_ ar cS d9:Nat):List S:=[.asg [1] (.call c_ [0,(.bin .add (.kn 1) 5)]),.asg [6] (.call cS [1]),.jc 7 wA,.asg [8] (.sub 6 (.call ar [1,(.bi .len [6])])),.expr (.me .append 4 [(.tup [8,(.call d9 [1,6,7])])])]
theorem yg{G:bc}{c_ ar cS d9:Nat}(hW:nU (G c_))(hD:dO (G ar))(N7:kL (G cS))(Sh:pV (G d9)){ns:List Int}(ko:ns.length<=63){m:Int}{i:Nat}{aZ bp:List D}{M4:ag}{n3:Nat}{o1 d2 o6 o7 o8:Option D}{nx:En->ag->Prop}{rt:W->ag->Prop}{bk ct:En->ag->Prop}(hi:i<4)(N5:aZ.length<=8)(Dx:∀x∈aZ,nV m x)(h4:M4[n3]?=some (.lst bp))(pI:bp.length=i)(q:∀o1 o6 o7 o8 M9 x,BA aZ i x->Fr n3 M4 M9->M9[n3]?=some (.lst (bp++[x]))->nx [some (.ls (ns.map D.int)),o1,d2,some (.tup aZ),some (.aD n3),some (.int i),o6,o7,o8] M9):dB G (Gb c_ ar cS d9) [some (.ls (ns.map D.int)),o1,d2,some (.tup aZ),some (.aD n3),some (.int i),o6,o7,o8] M4 nx rt bk ct:=by
 have l4:=aV h4;nofun;refine(hW M4 ns (1+i) ∅ ∅ ko).imp ?_;rintro r M5 ⟨rfl,DE,mY,f5⟩;nofun;refine(N7 M5 _ _ mY ∅).imp ?_;rintro r M6 ⟨n6,st,rfl,Za,h6,T4,T5,e6,mh,f6⟩;have l6:=aV h6;show wE G wA [some (.ls (ns.map D.int)),some (.aD M4.length),d2,some (.tup aZ),some (.aD n3),some (.int i),some (.aD n6),o7,o8] M6 _;refine EY (m:=m) (i:=i) (by rfl) (by rfl) N5 Dx λcG hl KS=>?_;nofun;have h7:(M6++[MO.lst cG])[n6]?=some (.lst st):=aW h6;rw[fS h7];nofun;refine(hD _ _ _ _ mh.app ∅ ∅ ∅).imp ?_;rintro r8 M8 ⟨i8,rfl,T_,WZ,N4,f8⟩;have N3:n6≠M4.length:=∅;have h8:M8[n6]?=some (.lst st):=f8.get h7 N3;have W0:M8[M6.length]?=some (.lst cG):=f8.get aA ∅;obtain⟨s0,Si,Sj⟩:=ma (P:=uB) (ds:=st) (i:=i8) (k:=st.length) e6 T_ WZ rfl;nofun;rw[bh h8 T_ Si];nofun;have W2:M5[n3]?=some (.lst bp):=f5.get h4 ∅;have W3:M6[n3]?=some (.lst bp):=f6.get W2 ∅;have Ua:M8[n3]?=some (.lst bp):=f8.get (aW W3) ∅;refine⟨dX Ua,?_⟩;nofun;refine(Sh (pW aZ i) M8 M4.length n6 M6.length _ st cG N4 ∅ h8 N3 W0 ∅ e6 T4 T5 KS ∅).imp ?_;rintro r9 M9 ⟨mv,rfl,Gd,Sk,PF,f9⟩;nofun;refine⟨(show(2:Nat)<=sizeLine by decide),?_⟩;have Ub:M9[n3]?=some (.lst bp):=f9.get Ua ∅;nofun;rw[fy Ub (bE ∅)];refine q _ _ _ _ _ (.tup [s0,.tup mv]) ⟨_,_,rfl,Sj,Gd,Sk⟩ ?_ (bH Ub);have g5:Fr M4.length M4 M9:=(((f5.none f6 (aL _)).app).none f8 (aL _)).none f9 (aL _);refine⟨by rw[jt];exact g5.1,λn hn k=>?_⟩;rw[jr (cK k)];exact g5.2 n hn ∅
theorem N8{G:bc}{c_ ar iF cS d9:Nat}(hW:nU (G c_))(hD:dO (G ar))(hR:uy (G iF))(N7:kL (G cS))(Sh:pV (G d9)):BB (ah G 9 (wk c_ ar iF cS d9)):=by
 intro M ns ko;rw[bo];show dB G (wk c_ ar iF cS d9) [some (.ls (ns.map D.int)),none,none,none,none,none,none,none,none] M _ _ _ _;have hb:wk c_ ar iF cS d9=[.asg [1] (.call c_ [(.fK 0),(.bf (.int 0))]),.asg [2] (.sub (.lst [(.bf (.int 2)),(.bf (.int 1)),(.bf (.int 3)),(.bf (.int 2)),(.bf (.int 4)),(.bf (.int 3))]) (.call ar [(.fK 1),(.bf (.int 6))])),.asg [3] (.call iF [(.fK 1),(.fK 2)]),.asg [4] (.lst []),.dI [5] .fJ [(.fK 2)] (Gb c_ ar cS d9),.ret (.tup [(.bi .tuple1 [(.fK 4)]),(.fK 3)])]:=rfl;rw[hb];nofun;refine(hW M ns 0 ∅ ∅ ko).imp ?_;rintro r M1 ⟨rfl,JM,Bx,f1⟩;nofun;refine⟨(show(6:Nat)<=sizeLine by decide),?_⟩;nofun;refine(hD _ _ _ 6 Bx ∅ ∅ ∅).imp ?_;rintro r M2 ⟨i2,rfl,Px,R8,uA,f2⟩
 obtain⟨d,hd,m,e,T1,F8⟩:=ma (P:=λd=>∃j:Int,d=.int j/\1<=j/\j<=4) (ds:=[.int 2,.int 1,.int 3,.int 2,.int 4,.int 3]) (i:=i2) (k:=6) (by
  intro d hd;simp only[bS,gm,fh]at hd;rcases hd with rfl | rfl | rfl | rfl | rfl | rfl<;>exact⟨_,rfl,∅,∅⟩) Px R8 rfl
 subst e;nofun;rw[pQ Px hd];nofun;refine(hR _ _ _ m uA ∅ T1 F8).imp ?_;rintro r M3 ⟨aZ,rfl,N5,Dx,wm,f3⟩;nofun;refine⟨(show(0:Nat)<=sizeLine by decide),?_⟩;nofun;refine⟨⟨∅,∅⟩,?_⟩;have C4:Fr M.length M M3:=(f1.trans f2).trans f3;have l3:=C4.1
 refine j6 (n:=m.toNat) (λi ρ M'=>∃bp o1 o5 o6 o7 o8,ρ=[some (.ls (ns.map D.int)),o1,some (.int m),some (.tup aZ),some (.aD M3.length),o5,o6,o7,o8]/\M'[M3.length]?=some (.lst bp)/\bp.length=i/\(∀k x,bp[k]?=some x->BA aZ k x)/\Fr M.length M M')
  ⟨[],_,none,none,none,none,rfl,aA,rfl,(by intro k x h;simp at h),C4.app⟩ ?_ ?_
 ·rintro i ρ M4 hi ⟨bp,o1,o5,o6,o7,o8,rfl,h4,pI,mX,kK⟩;rw[show(0:Int)+(i:Int)=i by omega];refine yg hW hD N7 Sh ko (m:=m) (i:=i) ∅ N5 Dx h4 pI λp1 p6 p7 p8 M9 x hx f9 h9=>?_;refine⟨bp++[x],_,_,_,_,_,rfl,h9,by simp[pI],?_,kK.none f9 l3⟩;intro k y hk;by_cases DC:k<bp.length
  ·rw[jq DC]at hk;exact mX k y hk
  ·have W4:k=bp.length:=by have:=(bV.mp hk).1;simp at this;omega
   subst W4;simp at hk;subst hk;rw[pI];exact hx
 ·rintro ρ M4 ⟨bp,o1,o5,o6,o7,o8,rfl,h4,pI,mX,kK⟩;nofun;rw[bR h4];nofun;refine⟨(show(2:Nat)<=sizeLine by decide),_,rfl,⟨bp,aZ,rfl,∅,∅,N5,?_,mX⟩,kK⟩;have:(bp.length:Int)=m:=∅;rw[this];exact Dx
theorem JQ(a b:Str):PyData.strOk (a++b)=(PyData.strOk a&&PyData.strOk b):=by
 show(a.cps++b.cps).all _=_;rw[Array.all_append];rfl
noncomputable def Tx(b:Nat)(x:Str):Prop:=x.length<=b/\PyData.strOk x=true
theorem Tx.app{a b:Nat}{x y:Str}(h:Tx a x)(k:Tx b y):Tx (a+b) (x++y):=⟨by rw[strLen_append];have:=h.1;have:=k.1;omega,by rw[JQ,h.2,k.2];rfl⟩
theorem Tx.mono{a b:Nat}{x:Str}(h:Tx a x)(k:a<=b):Tx b x:=⟨cJ h.1 k,h.2⟩
theorem wB{b:Nat}:∀{l:List Str},(∀x∈l,Tx b x)->Tx (l.length*(b+2)) ((Str.ofString ", ").join l)
 | [],_=>by rw[Str.join.eq_1];exact⟨xf _,⋯⟩
 | [x],h=>by rw[Str.join.eq_2];exact(h x (eg ..)).mono (by simp)
 | x::y::r,h=>by
  rw[Str.join.eq_3 _ _ _ (λq=>by cases q)];have h1:=h x (eg ..);have h2:=wB (l:=y::r) λz hz=>h z (dC _ hz);have h3:Tx 2 (Str.ofString ", "):=⟨⋯,⋯⟩;refine((h1.app h3).app h2).mono ?_;rw[kW (a:=x),Nat.add_mul];omega
theorem BD{b:Nat}{l:List Str}(h:∀x∈l,Tx b x):Tx (l.length*(b+2)+3) (tupleText l):=by
 unfold tupleText;have h1:Tx 1 (Str.ofString "("):=⟨⋯,⋯⟩
 have h2:Tx 2 (Str.ofString (if (l.length==1)=true then ",)" else ")")):=by
  split<;>exact⟨⋯,⋯⟩
 exact((h1.app (wB h)).app h2).mono ∅
theorem wC{b:Nat}:∀{l:List Str}{n a:Nat}{x:Str},Tx a x->(∀x∈l,Tx b x)->Tx (a+l.length*(b+2)) (textFrom n x l)
 | [],_,_,_,h,_=>by rw[textFrom.eq_1];exact h.mono (by simp)
 | t::ts,n,a,x,h,k=>by
  rw[textFrom.eq_2];have h2:Tx 2 (Str.ofString (if n>0 then ", " else "")):=by split<;>exact⟨⋯,⋯⟩
  refine(wC (l:=ts) (n:=n+1) ((h.app h2).app (k t (eg ..))) λz hz=>k z (dC _ hz)).mono ?_;rw[kW,Nat.add_mul];omega
theorem EZ{b:Nat}{l:List Str}(h:∀x∈l,Tx b x):Tx (l.length*(b+2)+2) (listText l):=by
 unfold listText;have h1:Tx 1 (Str.ofString "["):=⟨⋯,⋯⟩;have h2:Tx 1 (Str.ofString "]"):=⟨⋯,⋯⟩;exact((wC h1 h).app h2).mono ∅
def so(b h:Nat)(p:PyData):Prop:=p.canLay0=true/\p.showable=true/\p.depth<=h/\Tx b p.shown
def Sm(b h:Nat)(d:D):Prop:=∃p:PyData,(∀M n,h<=n->cM M n d=some p)/\so b h p
theorem Sm.mono{b c h k:Nat}{d:D}(x:Sm b h d)(hb:b<=c)(hk:h<=k):Sm c k d:=by
 obtain⟨p,e,q1,q2,q3,q4⟩:=x;exact⟨p,λM n hn=>e M n ∅,q1,q2,∅,q4.mono hb⟩
theorem Sm.aJ:Sm 4 0 .aJ:=⟨.none,λM n _=>by cases n<;>(unfold cM;rfl),PyData.canLay0.eq_1,PyData.showable.eq_1,tj PyData.depth.eq_4,by rw[PyData.shown.eq_1];exact⟨⋯,⋯⟩⟩
theorem uD:∀i:Fin 100,(Str.ofString (toString ((i.val:Nat):Int))).length<=2/\PyData.strOk (Str.ofString (toString ((i.val:Nat):Int)))=true/\(PyData.int ((i.val:Nat):Int)).showable=true:=⋯
theorem Sm.int{i:Int}(h0:0<=i)(h1:i<100):Sm 2 0 (.int i):=by
 have q:=uD ⟨i.toNat,∅⟩;have e:((i.toNat:Nat):Int)=i:=∅;simp only[e]at q;exact⟨.int i,λM n _=>by cases n<;>(unfold cM;rfl),qz i,q.2.2,tj (qC i),by rw[PyData.shown.eq_3];exact⟨q.1,q.2.1⟩⟩
theorem Sm.str{x:Str}{b:Nat}(h:PyData.strOk x=true)(k:Tx b (reprText x)):Sm b 0 (.str x) :=
 ⟨.str x,λM n _=>by cases n<;>(unfold cM;rfl),(wW x).trans h,PyData.showable.eq_3 x,tj (wY x),by rw[PyData.shown.eq_4];exact k⟩
theorem so.all{b h:Nat}:∀{ps:List PyData},(∀p∈ps,so b h p)->PyData.canLayAll0 ps=true/\PyData.showableAll ps=true/\PyData.depthAll ps<=h/\(∀x∈PyData.shownAll ps,Tx b x)/\(PyData.shownAll ps).length=ps.length
 | [],_=>⟨sV,PyData.showableAll.eq_1,by rw[sX];omega,by rw[PyData.shownAll.eq_1];intro x h;(cases h),by rw[PyData.shownAll.eq_1];rfl⟩
 | p::ps,q=>by
  obtain⟨a1,a2,a3,a4,a5⟩:=so.all (ps:=ps) λp hp=>q p (dC _ hp);obtain⟨b1,b2,b3,b4⟩:=q p (eg ..);refine⟨by rw[sW,a1,b1];rfl,by rw[PyData.showableAll.eq_2,a2,b2];rfl,by rw[sY];omega,?_,by rw[PyData.shownAll.eq_2,kW,a5,kW]⟩;rw[PyData.shownAll.eq_2];intro x hx;rcases bS.mp hx with rfl | hx
  ·exact b4
  ·exact a4 x hx
theorem so.tup{b h k:Nat}{ps:List PyData}(q:∀p∈ps,so b h p)(hk:ps.length<=k):so (k*(b+2)+3) (h+1) (.tuple ps):=by
 obtain⟨a1,a2,a3,a4,a5⟩:=so.all q;refine⟨(wX ps).trans a1,(PyData.showable.eq_6 ps).trans a2,by rw[wZ];omega,?_⟩;rw[PyData.shown.eq_6];refine(BD a4).mono ?_;rw[a5];exact Nat.add_le_add_right (Nat.mul_le_mul_right _ hk) _
theorem so.list{b h k:Nat}{ps:List PyData}(q:∀p∈ps,so b h p)(hk:ps.length<=k):so (k*(b+2)+2) (h+1) (.list ps):=by
 obtain⟨a1,a2,a3,a4,a5⟩:=so.all q;refine⟨(PyData.canLay0.eq_5 ps).trans a1,(PyData.showable.eq_5 ps).trans a2,by rw[PyData.depth.eq_1];omega,?_⟩;rw[PyData.shown.eq_5];refine(EZ a4).mono ?_;rw[a5];exact Nat.add_le_add_right (Nat.mul_le_mul_right _ hk) _
theorem Sm.ds{b h:Nat}:∀{ds:List D},(∀d∈ds,Sm b h d)->∃ps,(∀M n,h<=n->bC M n ds=some ps)/\(∀p∈ps,so b h p)/\ps.length=ds.length
 | [],_=>⟨[],λM n _=>by unfold bC;rfl,(by intro p h;cases h),rfl⟩
 | d::ds,q=>by
  obtain⟨ps,e,a,l⟩:=Sm.ds (ds:=ds) λd hd=>q d (dC _ hd);obtain⟨p,ep,ap⟩:=q d (eg ..);refine⟨p::ps,λM n hn=>by unfold bC;rw[ep M n hn,e M n hn],?_,by simp[l]⟩;intro x hx;rcases bS.mp hx with rfl | hx
  ·exact ap
  ·exact a x hx
theorem Sm.tup{b h k:Nat}{ds:List D}(q:∀d∈ds,Sm b h d)(hk:ds.length<=k):Sm (k*(b+2)+3) (h+1) (.tup ds):=by
 obtain⟨ps,e,a,l⟩:=Sm.ds q;refine⟨.tuple ps,λM n hn=>?_,so.tup a ∅⟩;obtain⟨n,rfl⟩:∃m,n=m+1:=⟨n-1,∅⟩;unfold cM;rw[e M n ∅];rfl
theorem so.shaped{b h:Nat}{p:PyData}(q:so b h p)(hh:h<=40):SeqAt.shaped p=true:=by
 unfold SeqAt.shaped;rw[q.1,yY];exact e5 (by have:=q.2.2.1;omega)
theorem pX{b h:Nat}{d:D}(q:Sm b h d)(hb:b<=1000000)(hh:h<=30):∃x,PyData.strOk x=true/\∀M,kA .iT [.d d] M=.ok (.d (.str x)) M:=by
 obtain⟨p,e,q1,q2,q3,q4,q5⟩:=q;refine⟨p.shown,q5,λM=>?_⟩;unfold kA;have:iH M (.d d)=some p:=e M 30 hh
 try simp only[this]
 rw[aS ⟨q2,∅,cJ (cJ q4 hb) (by decide)⟩]
noncomputable def mq(s:Int)(c:Str):D->Bool
 | .tup (.int s'::.str c'::_)=>s'==s&&c'==c
 | _=>false
def BE:D->D
 | .tup (_::_::r)=>.tup r
 | d=>d
def Cq(cq:List D)(s:Int)(c:Str):D:=match cq.find? (mq s c)with
 | some d=>BE d
 | none=>if c == "own" then .aJ else .tup [.int s,.tup [],.aJ]
theorem bq:PyData.strOk "own" = true:=⋯
theorem su{x:Str} (h:x = "own" \/ x = "a" \/ x = "b" \/ x = "z"):PyData.strOk x=true:=by
 rcases h with rfl | rfl | rfl | rfl<;>decide +kernel
theorem JR{M:ag}{s s':Int}{c c':Str}(hc:PyData.strOk c=true)(zd:PyData.strOk c'=true):bg .eq (.d (.tup [.int s',.str c'])) (.d (.tup [.int s,.str c])) M=.ok (s'==s&&c'==c) M:=by
 have h1:∀(s:Int)(c:Str),iH M (.d (.tup [.int s,.str c]))=some (.tuple [.int s,.str c]):=λs c=>by
  show cM M 30 (.tup [.int s,.str c])=_
  try simp only[cM,bC,tf]
 have h2:∀(s:Int){c:Str},PyData.strOk c=true->SeqAt.shaped (.tuple [.int s,.str c])=true:=λs c h=>by
  unfold SeqAt.shaped
  try simp only[wX,sW,sV,qz,wW,h,wZ,sY,sX,qC,wY]
  rfl
 unfold bg
 try simp only[h1,h2 _ hc,h2 _ zd,jv,dD,PyData.eqv.eq_8,PyData.eqvAll.eq_2,CI,yW,PyData.eqv.eq_6,Bool.and_true]
theorem yh{α:Type}{p:α->Bool}{l:List α}{k:Nat}{x:α}(h:l[k]?=some x)(hn:(l.take k).find? p=none)(hp:p x=true):l.find? p=some x:=by
 have hk:=(bV.mp h).1
 have e:l=l.take k++(x::l.drop (k+1)):=by
  have:l.drop k=x::l.drop (k+1):=by
   rw[List.drop_eq_getElem_cons hk]
   congr 1
   rw[cE hk]at h;exact cU h
  rw[<- this,List.take_append_drop]
 rw[e,List.find?_append,hn];simp[hp]
def jh(F:Fn):Prop:=∀(P:Int->Prop)(M:ag)(bp aZ cq:List D)(st:D)(m:Nat)(s:Int)(c:Str),bp[m]?=some (.tup [st,.tup cq])->(∀y∈cq,jg P y)->PyData.strOk c=true ->
 aG (F [.tup [.tup bp,.tup aZ],.int m,.int s,.str c] M) λr M'=>M=M'/\r=.d (Cq cq s c)
theorem BF{ds:List D}{m:Nat}{x:D}(h:ds[m]?=some x):ds[((m:Nat):Int).toNat]?=some x:=by rw[GK];exact h
theorem E1{G:bc}:jh (ah G 5 pS):=by
 intro P M bp aZ cq st m s c hm Gd hc;rw[bo];show dB G pS [some (.tup [.tup bp,.tup aZ]),some (.int m),some (.int s),some (.str c),none] M _ _ _ _;nofun;rw[kI (M:=M) (ds:=bp) (i:=(m:Nat)) ∅ (BF hm)];nofun;refine je (ds:=cq) (λk ρ M'=>∃o4,M=M'/\ρ=[some (.tup [.tup bp,.tup aZ]),some (.int m),some (.int s),some (.str c),o4]/\(cq.take k).find? (mq s c)=none) ⟨none,rfl,rfl,by simp⟩ ?_ ?_
 ·rintro k ρ M' d hd ⟨o4,rfl,rfl,nW⟩;obtain⟨s',c',a,sd,wd,rfl,⟨i,rfl,_,_⟩,⟨cx,rfl,Sl⟩,_⟩:=Gd d (gQ hd)
  have Kx:(i==s&&cx==c)=false->(cq.take (k+1)).find? (mq s c)=none:=λq=>by
   rw[dN hd,List.find?_append,nW]
   try simp only[ie,mq,q]
   rfl
  nofun
  cases q:(i==s)with
  | true =>
   nofun;rw[aI (su Sl) hc]
   cases q2:(cx==c)with
   | true =>
    nofun;refine⟨(show(3:Nat)<=sizeLine by decide),rfl,?_⟩;unfold Cq;rw[yh hd nW (by simp[mq,q,q2])];rfl
   | false=>exact⟨_,rfl,rfl,Kx (by simp[q2])⟩
  | false=>exact⟨_,rfl,rfl,Kx (by simp[q])⟩
 ·rintro ρ M' ⟨o4,rfl,rfl,nW⟩;rw[oo]at nW;nofun;rw[aI hc bq]
  cases q:(c == "own")with
  | true =>
   refine⟨rfl,?_⟩;unfold Cq;rw[nW];show _=W.d (if (c == "own")=true then _ else _);rw[q];rfl
  | false =>
   nofun;refine⟨(show(0:Nat)<=sizeLine by decide),?_⟩;nofun;refine⟨(show(3:Nat)<=sizeLine by decide),rfl,?_⟩;unfold Cq;rw[nW];show _=W.d (if (c == "own")=true then _ else _);rw[q];rfl
theorem E2{d:D}(h:wt d):Sm 12 0 d:=by
 rcases h with rfl | ⟨x,rfl,h⟩
 ·exact Sm.aJ.mono (by decide) (by decide)
 ·rcases h with rfl | rfl | rfl | rfl | rfl<;>exact Sm.str ⋯ ⟨⋯,⋯⟩
theorem N9{d:D}(h:uB d):Sm 2 0 d:=by
 obtain⟨i,rfl,h0,h1⟩:=h;exact Sm.int h0 h1
theorem E3{P:Int->Prop}(hP:∀r,P r->0<=r/\r<100){d:D}(h:wq P d):Sm 20 1 d:=by
 obtain⟨r,c,rfl,h1,h2⟩:=h;have hc:Sm 3 0 (.str c):=by rcases h2 with rfl | rfl | rfl | rfl<;>exact Sm.str ⋯ ⟨⋯,⋯⟩
 refine(Sm.tup (b:=3) (h:=0) (k:=2) (ds:=[.int r,.str c]) ?_ (aL 2)).mono (by decide) (by decide);intro d hd;simp only[bS,gm,fh]at hd;rcases hd with rfl | rfl
 ·exact(Sm.int (hP r h1).1 (hP r h1).2).mono (by decide) (by decide)
 ·exact hc
theorem JS{P:Int->Prop}(hP:∀r,P r->0<=r/\r<100){d:D}(h:jg P d):Sm 300 3 (BE d):=by
 obtain⟨s,c,a,sd,wd,rfl,_,_,ha,hl,mj,hw⟩:=h;show Sm 300 3 (.tup [a,.tup sd,wd]);have h1:Sm 69 2 (.tup sd):=Sm.tup (b:=20) (h:=1) (k:=3) (λx hx=>E3 hP (mj x hx)) hl;refine(Sm.tup (b:=69) (h:=2) (k:=3) (ds:=[a,.tup sd,wd]) ?_ (aL 3)).mono (by decide) (by decide);intro d hd;simp only[bS,gm,fh]at hd;rcases hd with rfl | rfl | rfl
 ·exact(N9 ha).mono (by decide) (by decide)
 ·exact h1
 ·exact(E2 hw).mono (by decide) (by decide)
theorem JT{M:ag}{n:Nat}{ds:List D}{b h:Nat}(hM:M[n]?=some (.lst ds))(q:∀d∈ds,Sm b h d)(hl:ds.length<=1000)(hh:h<=20):bg .ne (.d (.aD n)) (.lv []) M=.ok (!ds.isEmpty) M:=by
 obtain⟨ps,e,a,l⟩:=Sm.ds q
 have h1:iH M (.d (.aD n))=some (.list ps):=by
  show cM M 30 (.aD n)=_;unfold cM
  try simp only[hM]
  rw[e M 29 ∅];rfl
 have h2:iH M (.lv [])=some (.list []):=by show(bC M 30 []).map _=_;unfold bC;rfl
 have h3:=(so.list (k:=1000) a ∅).shaped ∅;have h4:SeqAt.shaped (.list [])=true:=⋯;unfold bg
 try simp only[h1,h2,h3,h4,jv,dD,PyData.eqv.eq_7]
 cases ds with
 | nil =>
  have:ps=[]:=Gr l;subst this;rw[CI];rfl
 | cons d ds =>
  cases ps with
  | nil=>simp at l
  | cons p ps =>
   have:PyData.eqvAll (p::ps) []=false:=by simp only[PyData.eqvAll]
   rw[this];rfl
def kM(F:Fn):Prop:=∀(P:Int->Prop)(M:ag)(bp aZ cq:List D)(st:D)(m:Nat)(s:Int)(c:Str),(∀r,P r->0<=r/\r<100)->bp[m]?=some (.tup [st,.tup cq])->(∀y∈cq,jg P y)->cq.length<=28->PyData.strOk c=true ->
 aG (F [.tup [.tup bp,.tup aZ],.int m,.int s,.str c] M) λr M'=>Fr M.length M M'/\r=.d (Cq cq s c)
theorem sv{α:Type}{p:α->Bool}{l:List α}{k:Nat}{x:α}(h:l[k]?=some x):(l.take (k+1)).filter p=(l.take k).filter p++(if p x then [x] else []):=by
 rw[dN h,List.filter_append];cases q:p x<;>simp[q]
theorem sx{α:Type}{p:α->Bool}{l:List α}:l.find? p=(l.filter p).head?:=by
 induction l with
 | nil=>rfl
 | cons x l ih =>
  cases q:p x
  ·rw[List.find?_cons_of_neg (by simp[q]),List.filter_cons_of_neg (by simp[q])];exact ih
  ·rw[List.find?_cons_of_pos q,List.filter_cons_of_pos q];rfl
theorem E4{G:bc}:kM (ah G 5 pU):=by
 intro P M bp aZ cq st m s c hP hm Gd Zb hc;rw[bo];show dB G pU [some (.tup [.tup bp,.tup aZ]),some (.int m),some (.int s),some (.str c),none] M _ _ _ _;nofun;rw[kI (M:=M) (ds:=bp) (i:=(m:Nat)) ∅ (BF hm)];nofun;refine jf (ds:=cq) (λk M' acc=>M=M'/\acc=((cq.take k).filter (mq s c)).map BE/\acc.length<=k) (by decide) (λi M' acc _ _=>rfl) ⟨rfl,by simp,aL _⟩ ?_ ?_ rfl
 ·rintro k M' acc d hd ⟨rfl,yi,Kz⟩;have hk:=(bV.mp hd).1;refine⟨bE ∅,?_⟩;obtain⟨s',c',a,sd,wd,rfl,⟨i,rfl,_,_⟩,⟨cx,rfl,Sl⟩,_⟩:=Gd d (gQ hd);have hn:=sv (p:=mq s c) hd;nofun;refine⟨(show(2:Nat)<=sizeLine by decide),?_⟩;show dU (bg .eq (.d (.tup [.int i,.str cx])) (.d (.tup [.int s,.str c])) M) _;rw[JR hc (su Sl)]
  cases q:(i==s&&cx==c)with
  | true =>
   nofun;refine⟨rfl,?_,by simp;omega⟩;rw[hn,aS (show mq s c (.tup [.int i,.str cx,a,.tup sd,wd])=true from q),qG,yi];rfl
  | false =>
   refine⟨rfl,?_,∅⟩;rw[hn,a8 (show ¬mq s c (.tup [.int i,.str cx,a,.tup sd,wd])=true from λz=>by rw[show mq s c (.tup [.int i,.str cx,a,.tup sd,wd])=false from q]at z;cases z),qF,yi]
 ·rintro M' told ⟨rfl,yi,Kz⟩;rw[oo]at yi;have hM:(M++[MO.lst told])[M.length]?=some (.lst told):=aA
  have W5:∀d∈told,Sm 300 3 d:=by
   intro d hd;rw[yi]at hd;obtain⟨y,hy,rfl⟩:=kg.mp hd;exact JS hP (Gd y (CN.mp hy |>.1))
  nofun;refine⟨(show(0:Nat)<=sizeLine by decide),?_⟩;nofun;rw[JT hM W5 ∅ (by decide)]
  have uE:Cq cq s c=told.head?.getD (if c == "own" then .aJ else .tup [.int s,.tup [],.aJ]):=by
   unfold Cq;rw[sx,yi,List.head?_map];cases (cq.filter (mq s c)).head? <;> rfl
  cases told with
  | cons d r =>
   nofun;rw[bh hM (i:=0) (x:=d) (tm 0) rfl];exact⟨(Fr.refl _ M).app,by rw[uE];rfl⟩
  | nil =>
   nofun;rw[aI hc bq];have uE:Cq cq s c=if (c == "own")=true then .aJ else .tup [.int s,.tup [],.aJ]:=uE
   cases q:(c == "own")with
   | true =>
    rw[q]at uE;exact⟨(Fr.refl _ M).app,by rw[uE];rfl⟩
   | false =>
    rw[q]at uE;nofun;refine⟨(show(0:Nat)<=sizeLine by decide),?_⟩;nofun;refine⟨(show(3:Nat)<=sizeLine by decide),(Fr.refl _ M).app,?_⟩;rw[uE];rfl
end Ev
end
section
namespace Ev
open PySem
noncomputable def mr:List S:=[.ret (.di [(.bi (.qr .int) [0]),(.neg (.bi (.qr .bool) [0]))])]
noncomputable def jS(cf:Nat):List S:=[.ret (.di [(.call cf [0]),(.chain .le .lt (.kn 0) 0 1)])]
noncomputable def sy:List S:=[.ret (.di [(.bi (.qr .str) [0]),(.cmp .eq (.bi .len [0]) (.kn 1)),(.chain .le .le (.bf (.str "a")) 0 (.bf (.str "z")))])]
noncomputable def uF:List S:=[.ret (.bi .list1 [(.sub (.sub (.ks 0 1) 1) (.kn 1))])]
def mw(d_:Nat)(ji:Nat)(cf:Nat):List S:=[.iff (.f_ [(.neg (.val (.bi (.qr .tuple) [1]))),(.val (.cmp .eJ (.bi .len [1]) (.tup [(.kn 2),(.kn 3)])))]) [.ret (.bf (.bl false))] [],.iff (.val (.cmp .eq (.bi .len [1]) (.kn 2))) [.ret (.di [(.cmp .eq (.ks 1 0) (.bf (.str "own"))),(.call d_ [(.ks 1 1),(.bi .len [(.ks 0 0)])])])] [],.iff (.val (.cmp .eq (.ks 1 0) (.bf (.str "hear")))) [.ret (.di [(.call d_ [(.ks 1 1),(.bi .len [(.ks 0 0)])]),(.call ji [(.ks 1 2)])])] [],.ret (.di [(.cmp .eq (.ks 1 0) (.bf (.str "come"))),(.call d_ [(.ks 1 1),(.bi .len [(.ks 0 1)])]),(.call cf [(.ks 1 2)])])]
noncomputable def BG:List S:=[.iff (.val (.cmp .eq (.ks 1 0) (.bf (.str "come")))) [.ret (.sub (.sub (.ks 0 1) (.ks 1 1)) (.kn 1))] [],.ret (.ks 1 1)]
def JU(eN:Nat):List S:=[.asg [3] (.call eN [1,2]),.iff (.val (.cmp .eq (.sub (.sub (.ks 0 1) 2) (.kn 2)) (.bf (.str "row")))) [.asg [3] (.sQ 3 none (some (.kn 1)))] [],.ret (.comp .seq [3] [1,2] none 1 [none,none,none])]
def BH(fV:Nat)(kAnswer:Nat)(sA:Nat):List S:=[.iff (.neg (.val (.call fV [0,2]))) [.ret (.bf (.bl false))] [],.iff (.val (.cmp .eq (.ks 2 0) (.bf (.str "own")))) [.ret (.cmp .fc (.call kAnswer [0,(.ks 2 1),(.sub (.ks 1 0) (.ks 2 1)),(.bf (.str "own"))]) (.bf .aJ))] [],.iff (.val (.cmp .eq (.ks 2 0) (.bf (.str "come")))) [.ret (.cmp .isin (.ks 2 2) (.call sA [0,1,(.ks 2 1)]))] [],.ret (.bf (.bl true))]
def uG(eN:Nat):List S:=[.iff (.val (.cmp .eq (.ks 1 0) (.bf (.str "own")))) [.ret (.bf (.str "own"))] [],.iff (.val (.cmp .eq (.ks 1 0) (.bf (.str "hear")))) [.ret (.ks 1 2)] [],.ret (.sub (.bi .nJ [(.call eN [0,(.ks 1 1)])]) (.ks 1 2))]
def BI:List S:=[.ret (.tup [(.ks 0 0),(.bi .tuple1 [(.comp .seq [(.ks 0 1)] [1] (some (.val (.cmp .ne (.ks 1 0) 2))) 1 [none,none,some 1])])])]
noncomputable def BJ:List S:=[.ret (.tup [(.bin .add (.ks 0 0) (.kn 1)),(.bin .add (.ks 0 1) (.tup [(.tup [(.ks 0 0),1])]))])]
def BK(sC:Nat)(kAnswer:Nat)(mx:Nat)(sD:Nat)(ia:Nat):List S:=[.asg [3] (.call sC [0,2]),.asg [4] (.call kAnswer [0,3,(.sub (.ks 1 0) 3),(.call mx [1,2])]),.asg [5] (.bi .list1 [(.ks 1 0)]),.put 5 3 (.ks 4 0),.asg [6] (.bi .list1 [(.ks 1 1)]),.iff (.val (.cmp .eq (.ks 2 0) (.bf (.str "come")))) [.put 6 (.ks 2 1) (.call sD [(.sub 6 (.ks 2 1)),(.ks 2 2)])] [],.dI [7,8] .seq [(.ks 4 1)] [.put 6 7 (.call ia [(.sub 6 7),8])],.asg [9] (.bf .aJ),.iff (.val (.cmp .fc (.ks 4 2) (.bf .aJ))) [.asg [9] (.tup [3,(.ks 4 2)])] [],.ret (.tup [(.tup [(.bi .tuple1 [5]),(.bi .tuple1 [6])]),9])]
def pY:List S:=[.asg [2] (.lst []),.dI [3] .fJ [(.bi .len [(.ks 0 1)])] [.asg [4] (.bi .list1 [(.sub (.sub (.ks 1 1) 3) (.kn 1))]),.iff (.val (.cmp .eq (.sub (.sub (.ks 0 1) 3) (.kn 2)) (.bf (.str "row")))) [.asg [4] (.sQ 4 none (some (.kn 1)))] [],.asg [2] (.bin .add 2 (.comp .seq [4] [1,2] none (.tup [3,1,2]) [none,none,none,some 3]))],.ret 2]
def uH(nX:Nat)(dv:Nat):List S:=[.iff (.val (.cmp .ne (.ks 2 0) (.bf (.str "come")))) [.asg [3] (.ks 2 1),.ret (.call nX [0,3,(.sub (.ks 1 0) 3),(.sub (.yE 2 2) (.kn (-1)))])] [],.dI [4,5,6] .seq [(.call dv [0,1])] [.iff (.val (.cmp .eq (.tup [4,5]) (.sQ 2 (some (.kn 1)) none))) [.asg [3] (.sub (.sub (.ks 0 1) 4) (.kn 1)),.ret (.call nX [0,3,(.sub (.ks 1 0) 3),6])] []],.ret (.bf .aJ)]
noncomputable def uI:List S:=[.ret (.ite (.val (.cmp .eq (.ks 1 0) (.bf (.str "come")))) (.sub (.sub (.ks 0 1) (.ks 1 1)) (.kn 1)) (.ks 1 1))]
def uJ(eO:Nat)(my:Nat):List S:=[.asg [3,4,5] (.call eO [0,1,2]),.asg [6] (.call my [0,2]),.asg [7] (.bi .list1 [(.ks 1 0)]),.put 7 6 3,.jc 9 (.comp .seq [(.ks 1 1)] [1] none (.lst [(.ks 1 0),(.bi .list1 [(.ks 1 1)])]) [none,none]),.iff (.val (.cmp .eq (.ks 2 0) (.bf (.str "come")))) [.asg [8] (.sub 9 (.ks 2 1)),.put 8 (.kn 1) (.comp .seq [(.ks 8 1)] [1] (some (.val (.cmp .ne (.ks 1 0) (.ks 2 2)))) 1 [none,none,some 2])] [],.dI [10,11] .seq [4] [.expr (.me .append (.sub (.sub 9 10) (.kn 1)) [(.tup [(.sub (.sub 9 10) (.kn 0)),11])]),.put (.sub 9 10) (.kn 0) (.bin .add (.sub (.sub 9 10) (.kn 0)) (.kn 1))],.asg [12] (.bi .tuple1 [(.comp .seq [9] [1] none (.tup [(.ks 1 0),(.bi .tuple1 [(.ks 1 1)])]) [none,none])]),.ret (.tup [(.tup [(.bi .tuple1 [7]),12]),(.ite (.val (.cmp .qq 5 (.bf .aJ))) (.bf .aJ) (.tup [6,5]))])]
noncomputable def uK(ar:Nat):List S:=[.asg [2] (.lst [(.kn 0),(.call ar [0,(.kn 6)]),(.call ar [0,(.bin .sub (.bin .pow (.kn 10) (.kn 9)) (.kn 1000))])]),.asg [3] (.sub 2 (.bin .fdiv (.call ar [0,(.kn 5)]) (.kn 2))),.asg [4] (.lst []),.asg [5] 3,.dI [6] .fJ [(.bi .min2 [3,(.call ar [0,(.kn 4)])])] [.asg [5] (.bin .sub (.bin .sub 5 (.kn 1)) (.bin .mul (.bi .rC [(.cmp .eq 1 (.bf (.str "heap")))]) (.call ar [0,(.kn 3)]))),.iff (.val (.cmp .ge 5 (.kn 0))) [.expr (.me .insert 4 [(.kn 0),(.tup [5,(.sub (.bf (.str "abcz")) (.call ar [0,(.kn 4)]))])])] []],.ret (.tup [3,(.bi .tuple1 [4])])]
def pZ(c_:Nat)(ar:Nat)(mz:Nat):List S:=[.asg [2] (.call c_ [0,(.kn 5)]),.asg [3] (.bi .tuple1 [(.comp .seq [(.ks 1 1)] [1] none (.tup [(.kn 0),(.tup [])]) [none,none])]),.asg [4] (.bi .tuple1 [(.comp .seq [(.ks 1 0)] [1] none (.ks 1 0) [none,none])]),.iff (.val (.cmp .gt (.call ar [2,(.kn 3)]) (.kn 0))) [.asg [3] (.bi .tuple1 [(.comp .seq [(.ks 1 1)] [1] none (.call mz [2,(.ks 1 2)]) [none,none,some 2])]),.iff (.val (.cmp .eq (.call ar [2,(.kn 4)]) (.kn 0))) [.asg [4] (.bi .tuple1 [(.comp .seq [(.ks 1 0)] [1] none (.call ar [2,(.kn 100)]) [none,none,some 2])])] []] [],.ret (.tup [4,3])]
def uL(dv:Nat)(eO:Nat)(ar:Nat):List S:=[.jc 3 (.comp .seq [(.call dv [1,2])] [1,2,3] none (.tup [(.bf (.str "come")),1,2]) [none,none,none,none]),.asg [4] (.lst []),.dI [5] .fJ [(.bi .len [(.ks 1 0)])] [.iff (.val (.cmp .fc (.call eO [1,2,(.tup [(.bf (.str "own")),5])]) (.bf .aJ))) [.expr (.me .append 4 [(.tup [(.bf (.str "own")),5])])] []],.asg [6] (.call ar [0,(.kn 8)]),.iff (.di [(.val (.cmp .ne 3 (.lst []))),(.val (.cmp .lt 6 (.kn 4)))]) [.ret (.sub 3 (.call ar [0,(.bi .len [3])]))] [],.iff (.di [(.val (.cmp .ne 4 (.lst []))),(.val (.cmp .lt 6 (.kn 7)))]) [.ret (.sub 4 (.call ar [0,(.bi .len [4])]))] [],.ret (.tup [(.bf (.str "hear")),(.call ar [0,(.bi .len [(.ks 1 0)])]),(.sub (.bf (.str "abcz")) (.call ar [0,(.kn 4)]))])]
end Ev
end
section
namespace Ev
open L2
open PySem PySem.Spec PyProof.Rows
structure Mv where
 s:Int
 c:Str
 a:Int
 sd:List (Int×Str)
 w:Option Str
structure Fm where
 ru:List (Int×List Mv)
 ro:List (Int×Int×Str)
structure Sd where
 st:List Int
 ld:List (Int×List (Int×Str))
def pD(p:Int×Str):D:=.tup [.int p.1,.str p.2]
def JV:Option Str->D
 | none=>.aJ
 | some x=>.str x
noncomputable def Ge(m:Mv):D:=.tup [.int m.s,.str m.c,.int m.a,.tup (m.sd.map pD),JV m.w]
def sS(r:Int×List Mv):D:=.tup [.int r.1,.tup (r.2.map Ge)]
noncomputable def uM(r:Int×Int×Str):D:=.tup [.int r.1,.int r.2.1,.str r.2.2]
def eE(f:Fm):D:=.tup [.tup (f.ru.map sS),.tup (f.ro.map uM)]
noncomputable def j8(l:Int×List (Int×Str)):D:=.tup [.int l.1,.tup (l.2.map pD)]
def eS(s:Sd):D:=.tup [.tup (s.st.map D.int),.tup (s.ld.map j8)]
inductive Dn where
 | own (m:Nat) | dP (m:Nat) (c:Str) | bI (r:Nat) (k:Int)
def dc:Dn->D
 | .own m=>.tup [.str "own",.int m]
 | .dP m c=>.tup [.str "hear",.int m,.str c]
 | .bI r k=>.tup [.str "come",.int r,.int k]
noncomputable def cP(s:Str):Prop:=s = "a" \/ s = "b" \/ s = "c" \/ s = "z"
theorem cP.ok{s:Str}(h:cP s):PyData.strOk s=true/\(s == "own")=false:=by
 rcases h with rfl | rfl | rfl | rfl<;>exact⟨⋯,⋯⟩
def E5(w:Option Str):Prop:=∀x,w=some x->x = "x" \/ x = "yes" \/ x = "abcdefgh" \/ x = "own" \/ x = "a"
structure yj (ro:List (Int×Int×Str)) (m:Nat) (y:Mv):Prop where
 s:0<=y.s/\y.s<100
 c:y.c = "own" \/ y.c = "a" \/ y.c = "b" \/ y.c = "z"
 a:0<=y.a/\y.a<100
 l:y.sd.length<=3
 sd:∀p∈y.sd,cP p.2/\0<=p.1/\∃r,ro[p.1.toNat]?=some r/\r.1=m
 w:E5 y.w
structure BL (n:Nat) (r:Int×Int×Str):Prop where
 a:0<=r.1/\r.1<n
 b:0<=r.2.1/\r.2.1<n
 ab:r.1≠r.2.1
 k:r.2.2 = "row" \/ r.2.2 = "heap"
structure cH (f:Fm):Prop where
 l1:1<=f.ru.length
 l4:f.ru.length<=4
 l8:f.ro.length<=8
 ro:∀r∈f.ro,BL f.ru.length r
 ru:∀m x,f.ru[m]?=some x->(0<=x.1/\x.1<100)/\x.2.length<=28/\∀y∈x.2,yj f.ro m y
structure fg (N:Nat) (l:Int×List (Int×Str)):Prop where
 s:0<=l.1/\l.1<=1000000000+N
 n:l.2.length<=N
 p:∀p∈l.2,cP p.2/\0<=p.1/\p.1<l.1
 r:l.2.Pairwise λp q=>p.1<q.1
structure cQ (f:Fm) (N:Nat) (s:Sd):Prop where
 ls:s.st.length=f.ru.length
 st:∀x∈s.st,0<=x/\x<100
 ll:s.ld.length=f.ro.length
 ld:∀l∈s.ld,fg N l
def da(f:Fm):Dn->Prop
 | .own m=>m<f.ru.length
 | .dP m c=>m<f.ru.length/\cP c
 | .bI r _=>r<f.ro.length
theorem BM{α:Type}{toD:α->D}:∀{ds:List D}{Q:Nat->α->Prop},(∀m x,ds[m]?=some x->∃a,x=toD a/\Q m a)->∃as:List α,ds=as.map toD/\∀m a,as[m]?=some a->Q m a
  | [],Q,_=>⟨[],rfl,λm a h=>by simp at h⟩
  | d::ds,Q,h=>by
    obtain⟨as,e,q⟩:=BM (toD:=toD) (ds:=ds) (Q:=λm a=>Q (m+1) a) λm x hx=>h (m+1) x (by simpa using hx);obtain⟨a,e0,q0⟩:=h 0 d (by simp);refine⟨a::as,by rw[fC,<- e,e0],λm b hb=>?_⟩
    cases m with
    | zero => have : a = b := by simpa using hb
              subst this;exact q0
    | succ m=>exact q m b (by simpa using hb)
theorem uN{α:Type}{toD:α->D}{ds:List D}{Q:α->Prop}(h:∀x∈ds,∃a,x=toD a/\Q a):∃as:List α,ds=as.map toD/\∀a∈as,Q a:=by
 obtain⟨as,e,q⟩:=BM (toD:=toD) (ds:=ds) (Q:=λ_ a=>Q a) λm x hx=>h x (gQ hx);exact⟨as,e,λa ha=>by obtain⟨i,hi,rfl⟩:=Cy.mp ha;exact q i _ (cE hi)⟩
theorem uO{d:D}(h:Ga d):∃f,d=eE f/\cH f:=by
 obtain⟨bp,aZ,rfl,h1,h4,h8,Dx,W6⟩:=h
 obtain⟨ro,rfl,W7⟩:=uN (toD:=uM) (ds:=aZ) (Q:=BL bp.length) λx hx=>by
  obtain⟨a,b,k,rfl,a0,a1,b0,b1,ab,hk⟩:=Dx x hx;exact⟨(a,b,k),rfl,⟨a0,a1⟩,⟨b0,b1⟩,ab,hk⟩
 obtain⟨ru,e,hr⟩:=BM (toD:=sS) (ds:=bp) (Q:=λm x=>(0<=x.1/\x.1<100)/\x.2.length<=28/\∀y∈x.2,yj ro m y) λm x hx=>by
  obtain⟨st,cq,rfl,⟨i,rfl,i0,i1⟩,hl,hm⟩:=W6 m x hx
  obtain⟨mv,rfl,Gd⟩:=uN (toD:=Ge) (ds:=cq) (Q:=yj ro m) λy hy=>by
   obtain⟨s,c,a,sd,wd,rfl,⟨s',rfl,s0,s1⟩,⟨c',rfl,hc⟩,⟨a',rfl,a0,a1⟩,hl,mj,hw⟩:=hm y hy
   obtain⟨W8,rfl,hs⟩:=uN (toD:=pD) (ds:=sd) (Q:=λp=>cP p.2/\0<=p.1/\∃r,ro[p.1.toNat]?=some r/\r.1=(m:Int)) λz hz=>by
    obtain⟨r,c,rfl,⟨r0,b,k,hr⟩,hc⟩:=mj z hz;rw[dz]at hr
    cases e:ro[r.toNat]? with
    | none=>rw[e]at hr;cases hr
    | some q =>
     rw[e]at hr;have hr:uM q=.tup [.int m,b,k]:=cU hr;refine⟨(r,c),rfl,hc,r0,q,e,?_⟩;unfold uM at hr;simp only[D.tup.injEq,List.cons.injEq,D.int.injEq]at hr;exact hr.1
   have N_:∃w,wd=JV w/\E5 w:=by
    rcases hw with rfl | ⟨x,rfl,hx⟩
    ·exact⟨none,rfl,λx h=>by cases h⟩
    ·exact⟨some x,rfl,λy h=>by cases h;exact hx⟩
   obtain⟨w,rfl,uA⟩:=N_;exact⟨⟨s',c',a',W8,w⟩,rfl,⟨s0,s1⟩,hc,⟨a0,a1⟩,by simpa using hl,hs,uA⟩
  exact⟨(i,mv),rfl,⟨i0,i1⟩,by simpa using hl,Gd⟩
 subst e;rw[aE]at h1 h4;exact⟨⟨ru,ro⟩,rfl,h1,h4,by simpa using h8,by simpa using W7,hr⟩
def an(mv:List Mv)(s:Int)(c:Str):Option (Int×List (Int×Str)×Option Str):=match mv.find? λm=>m.s==s&&m.c==c with
 | some m=>some (m.a,m.sd,m.w)
 | none=>if c == "own" then none else some (s,[],none)
noncomputable def Oa:Option (Int×List (Int×Str)×Option Str)->D
 | none=>.aJ
 | some (a,sd,w)=>.tup [.int a,.tup (sd.map pD),JV w]
noncomputable def iG(o:Str)(ps:List (Int×Str)):List (Int×Str):=if (o == "row")=true then ps.take 1 else ps
def nY(f:Fm)(m:Nat):List Mv:=(f.ru.getD m (0,[])).2
def cz(f:Fm)(r:Nat):Int×Int×Str:=f.ro.getD r (0,0,"")
noncomputable def load(s:Sd)(r:Nat):Int×List (Int×Str):=s.ld.getD r (0,[])
def mc(f:Fm):Dn->Nat
 | .own m=>m
 | .dP m _=>m
 | .bI r _=>(cz f r).2.1.toNat
def cs(f:Fm)(s:Sd):Dn->Option Str
 | .own _=>some "own"
 | .dP _ c=>some c
 | .bI r k=>((iG (cz f r).2.2 (load s r).2).find? λp=>p.1==k).map (·.2)
def rp(f:Fm)(s:Sd)(d:Dn):Option (Int×List (Int×Str)×Option Str):=(cs f s d).bind λc=>an (nY f (mc f d)) (s.st.getD (mc f d) 0) c
def cn(f:Fm)(s:Sd)(d:Dn):Bool:=(rp f s d).isSome
noncomputable def less(l:Int×List (Int×Str))(k:Int):Int×List (Int×Str):=(l.1,l.2.filter λp=>!(p.1==k))
noncomputable def more(l:Int×List (Int×Str))(c:Str):Int×List (Int×Str):=(l.1+1,l.2++[(l.1,c)])
def mB(ld:List (Int×List (Int×Str))):Dn->List (Int×List (Int×Str))
 | .bI r k=>ld.set r (less (ld.getD r (0,[])) k)
 | _=>ld
def dY(ld:List (Int×List (Int×Str)))(sd:List (Int×Str)):List (Int×List (Int×Str)):=sd.foldl (λld p=>ld.set p.1.toNat (more (ld.getD p.1.toNat (0,[])) p.2)) ld
def Gf(f:Fm)(s:Sd)(d:Dn)(x:Int×List (Int×Str)×Option Str):Sd:=⟨s.st.set (mc f d) x.1,dY (mB s.ld d) x.2.1⟩
def KU(f:Fm)(d:Dn)(x:Int×List (Int×Str)×Option Str):D:=match x.2.2 with
 | none=>.aJ
 | some w=>.tup [.int (mc f d),.str w]
theorem mC{α β:Type}{g:α->β}{p:β->Bool}{q:α->Bool}(h:∀a,p (g a)=q a):∀l:List α,(l.map g).find? p=(l.find? q).map g
 | []=>rfl
 | a::l=>by
  have:=mC h l;rw[fC,ie,ie,h a,this];cases q a<;>rfl
theorem BN{mv:List Mv}{s:Int}{c:Str}:Cq (mv.map Ge) s c=Oa (an mv s c):=by
 unfold Cq an;rw[mC (q:=λm=>m.s==s&&m.c==c) (λa=>rfl)]
 cases mv.find? (λm=>m.s==s&&m.c==c)with
 | none =>
  show(if (c == "own")=true then D.aJ else .tup [.int s,.tup [],.aJ])=_;cases hc:(c == "own")<;>rfl
 | some m=>rfl
theorem yj.md{ro:List (Int×Int×Str)}{m:Nat}{y:Mv}(h:yj ro m y):jg (λr=>0<=r/\r<ro.length) (Ge y):=by
 refine⟨_,_,_,_,_,rfl,⟨_,rfl,h.s⟩,⟨_,rfl,h.c⟩,⟨_,rfl,h.a⟩,by simpa using h.l,?_,?_⟩
 ·intro d hd;obtain⟨p,hp,rfl⟩:=kg.mp hd;obtain⟨h1,h2,r,h3,_⟩:=h.sd p hp;refine⟨_,_,rfl,⟨h2,?_⟩,h1⟩;have:=(bV.mp h3).1;omega
 ·cases hw:y.w with
  | none=>exact .inl rfl
  | some x=>exact .inr ⟨x,rfl,h.w x hw⟩
theorem cH.at{f:Fm}(h:cH f){m:Nat}(hm:m<f.ru.length):(f.ru.map sS)[m]?=some (.tup [.int (f.ru.getD m (0,[])).1,.tup ((nY f m).map Ge)]):=by
 unfold nY;rw[dz,kR,cE hm];rfl
theorem cH.mv{f:Fm}(h:cH f){m:Nat}(hm:m<f.ru.length):(nY f m).length<=28/\∀y∈nY f m,yj f.ro m y:=by
 unfold nY;rw[kR,cE hm];exact(h.ru m _ (cE hm)).2
theorem cH.Uc{f:Fm}(h:cH f){m:Nat}(hm:m<f.ru.length):∀y∈(nY f m).map Ge,jg (λr=>0<=r/\r<f.ro.length) y:=by
 intro y hy;obtain⟨z,hz,rfl⟩:=kg.mp hy;exact((h.mv hm).2 z hz).md
theorem cH.rd{f:Fm}(h:cH f){r:Nat}(hr:r<f.ro.length):(f.ro.map uM)[r]?=some (.tup [.int (cz f r).1,.int (cz f r).2.1,.str (cz f r).2.2])/\BL f.ru.length (cz f r):=by
 unfold cz;rw[dz,kR,cE hr];exact⟨rfl,h.ro _ (qE hr)⟩
theorem cQ.E6{f:Fm}{N:Nat}{s:Sd}(h:cQ f N s){r:Nat}(hr:r<f.ro.length):(s.ld.map j8)[r]?=some (.tup [.int (load s r).1,.tup ((load s r).2.map pD)])/\fg N (load s r):=by
 have Ud:r<s.ld.length:=by rw[h.ll];exact hr
 unfold load;rw[dz,kR,cE Ud];exact⟨rfl,h.ld _ (qE Ud)⟩
theorem cQ.KW{f:Fm}{N:Nat}{s:Sd}(h:cQ f N s){m:Nat}(hm:m<f.ru.length):(s.st.map D.int)[m]?=some (.int (s.st.getD m 0))/\0<=s.st.getD m 0/\s.st.getD m 0<100:=by
 have PB:m<s.st.length:=by rw[h.ls];exact hm
 rw[dz,kR,cE PB];exact⟨rfl,h.st _ (qE PB)⟩
theorem BL.ok{n:Nat}{r:Int×Int×Str}(h:BL n r):PyData.strOk r.2.2=true:=by
 rcases h.k with e | e<;>rw[e]<;>decide +kernel
theorem da.mc{f:Fm}(h:cH f){d:Dn}(k:da f d):mc f d<f.ru.length:=by
 cases d with
 | own m=>exact k
 | dP m c=>exact k.1
 | bI r i =>
  have:=(h.rd k).2.b;show(cz f r).2.1.toNat<_;omega
theorem p0{mv:List Mv}{s:Int}{c:Str}(h:cP c):∃x,an mv s c=some x:=by
 unfold an
 cases mv.find? (λm=>m.s==s&&m.c==c)with
 | some m=>exact⟨_,rfl⟩
 | none=>rw[h.ok.2];exact⟨_,rfl⟩
structure yk (f:Fm) (m:Nat) (x:Int×List (Int×Str)×Option Str):Prop where
 a:0<=x.1/\x.1<100
 l:x.2.1.length<=3
 sd:∀p∈x.2.1,cP p.2/\0<=p.1/\∃r,f.ro[p.1.toNat]?=some r/\r.1=m
 w:E5 x.2.2
theorem Ob{f:Fm}(h:cH f){m:Nat}(hm:m<f.ru.length){s:Int}(hs:0<=s/\s<100){c:Str}{x:Int×List (Int×Str)×Option Str}(e:an (nY f m) s c=some x):yk f m x:=by
 unfold an at e
 cases q:(nY f m).find? (λm=>m.s==s&&m.c==c)with
 | some y =>
  rw[q]at e;cases e;have:=(h.mv hm).2 y (Gu q);exact⟨this.a,this.l,this.sd,this.w⟩
 | none =>
  rw[q]at e;dsimp only at e;split at e
  ·cases e
  ·cases e;exact⟨hs,by simp,(by intro p hp;cases hp),(by intro x h;cases h)⟩
theorem wD{f:Fm}(h:cH f){N:Nat}{s:Sd}(k:cQ f N s){d:Dn}(hd:da f d){x:Int×List (Int×Str)×Option Str}(e:rp f s d=some x):yk f (mc f d) x:=by
 unfold rp at e
 cases q:cs f s d with
 | none=>rw[q]at e;cases e
 | some c=>rw[q]at e;exact Ob h (hd.mc h) (k.KW (hd.mc h)).2 e
section
variable {M:ag} {n:Nat} {ds:List D} {i:Int} {x:D}
abbrev iD(ks:List Int):List D:=ks.map D.int
theorem p_{k:Nat}:∀(ks:List Int),bC M k (iD ks)=some (ks.map PyData.int)
 | []=>by show bC M k []=_;unfold bC;rfl
 | i::ks=>by
  show bC M k (.int i::iD ks)=_;unfold bC;have:cM M k (.int i)=some (.int i):=by cases k<;>(unfold cM;rfl)
  rw[this,p_ ks];rfl
theorem qc:∀(ks:List Int),(ks.map PyData.int).all SeqAt.shaped=true
 | []=>rfl
 | i::ks=>by
  show(SeqAt.shaped (.int i)&&(ks.map PyData.int).all SeqAt.shaped)=true;rw[iE,qc ks];rfl
theorem qd{i:Int}:∀(ks:List Int),jH (.int i) (ks.map PyData.int)=decide (i∈ks)
 | []=>by simp[jH]
 | k::ks=>by
  show(PyData.eqv (.int k) (.int i)||jH (.int i) (ks.map PyData.int))=_;rw[qd ks,yW];by_cases h:k=i
  ·subst h;simp
  ·have h2:(k==i)=false:=mL.mpr h;rw[h2,Bool.false_or];by_cases h3:i∈ks
   ·rw[e5 h3,e5 (dC _ h3)]
   ·rw[eh h3,eh (λz=>by
     rcases bS.mp z with z | z
     ·exact h z.symm
     ·exact h3 z)]
theorem BO{i:Int}:iH M (.d (.int i))=some (.int i):=by show cM M 30 (.int i)=_;unfold cM;rfl
theorem uP{i:Int}{ks:List Int}:bg .eJ (.d (.int i)) (.d (.tup (iD ks))) M=.ok (!decide (i∈ks)) M:=by
 unfold bg;simp only[BO,bN,p_,iE,qc,jv,dD,qd]
end
theorem aX:PyData.strOk "hear" = true:=⋯
theorem aB:PyData.strOk "come" = true:=⋯
theorem BP:PyData.strOk "row" = true:=⋯
theorem E7:PyData.strOk "heap" = true:=⋯
theorem ym:(("own" : Str) == "come")=false:=⋯
theorem uQ:(("hear" : Str) == "come")=false:=⋯
theorem mZ:(("come" : Str) == "come")=true:=⋯
theorem BQ:(("own" : Str) == "own")=true:=⋯
theorem JW:(("hear" : Str) == "own")=false:=⋯
theorem E8:(("come" : Str) == "own")=false:=⋯
theorem BR:(("hear" : Str) == "hear")=true:=⋯
theorem BS:(("come" : Str) == "hear")=false:=⋯
theorem s1:(1:Nat)<=sizeLine:=by decide
theorem s2:(2:Nat)<=sizeLine:=by decide
theorem s3:(3:Nat)<=sizeLine:=by decide
theorem s0:(0:Nat)<=sizeLine:=by decide
theorem dQ{M:ag}{ds:List D}{m:Nat}{x:D}(h:ds[m]?=some x):cW (.d (.tup ds)) (.d (.int m)) M=.ok (.d x) M:=Bn h
def nZ(F:Fn):Prop:=∀(M:ag)(f:Fm)(d:Dn),cH f->da f d->aG (F [eE f,dc d] M) λr M'=>M=M'/\r=.d (.int (mc f d))
theorem Oc{G:bc}:nZ (ah G 2 BG):=by
 intro M f d hf hd;rw[bo];show dB G BG [some (eE f),some (dc d)] M _ _ _ _
 cases d with
 | own m=>nofun;rw[aI bq aB,ym];exact⟨rfl,rfl⟩
 | dP m c=>nofun;rw[aI aX aB,uQ];exact⟨rfl,rfl⟩
 | bI r k =>
  obtain⟨h1,h2⟩:=hf.rd hd;nofun;rw[aI aB aB,mZ];nofun;rw[dQ h1];refine⟨rfl,?_⟩;show W.d (D.int _)=_;have:=h2.b
  congr 2
  show(cz f r).2.1=(((cz f r).2.1.toNat:Nat):Int);omega
theorem JX{G:bc}:nZ (ah G 2 uI):=by
 intro M f d hf hd;rw[bo];show dB G uI [some (eE f),some (dc d)] M _ _ _ _
 cases d with
 | own m=>nofun;rw[aI bq aB,ym];exact⟨rfl,rfl⟩
 | dP m c=>nofun;rw[aI aX aB,uQ];exact⟨rfl,rfl⟩
 | bI r k =>
  obtain⟨h1,h2⟩:=hf.rd hd;nofun;rw[aI aB aB,mZ];nofun;rw[dQ h1];refine⟨rfl,?_⟩;show W.d (D.int _)=_;have:=h2.b
  congr 2
  show(cz f r).2.1=(((cz f r).2.1.toNat:Nat):Int);omega
def mE(F:Fn):Prop:=∀(M:ag)(i:Int),aG (F [.int i] M) λr M'=>M=M'/\r=.d (.bl true)
theorem JY{G:bc}:mE (ah G 1 mr):=by
 intro M i;rw[bo];show dB G mr [some (.int i)] M _ _ _ _;nofun;exact⟨rfl,rfl⟩
def qe(F:Fn):Prop:=∀(M:ag)(i n:Nat),i<n->aG (F [.int i,.int n] M) λr M'=>M=M'/\r=.d (.bl true)
theorem JZ{G:bc}{cf:Nat}(hW:mE (G cf)):qe (ah G 2 (jS cf)):=by
 intro M i n h;rw[bo];show dB G (jS cf) [some (.int i),some (.int n)] M _ _ _ _;nofun;refine(hW M i).imp ?_;rintro r M1 ⟨rfl,rfl⟩;nofun;rw[e5 (show(i:Int)<n by omega)];exact⟨rfl,rfl⟩
def BU(F:Fn):Prop:=∀(M:ag)(c:Str),cP c->aG (F [.str c] M) λr M'=>M=M'/\r=.d (.bl true)
theorem Od{G:bc}:BU (ah G 1 sy):=by
 intro M c h;rw[bo];show dB G sy [some (.str c)] M _ _ _ _;rcases h with rfl | rfl | rfl | rfl<;>(nofun;exact⟨rfl,rfl⟩)
theorem PH{M:ag}:bg .eJ (.d (.int 2)) (.d (.tup [.int 2,.int 3])) M=.ok false M:=uP (ks:=[2,3])
theorem Oe{M:ag}:bg .eJ (.d (.int 3)) (.d (.tup [.int 2,.int 3])) M=.ok false M:=uP (ks:=[2,3])
def uR(F:Fn):Prop:=∀(M:ag)(f:Fm)(d:Dn),cH f->da f d->aG (F [eE f,dc d] M) λr M'=>M=M'/\r=.d (.bl true)
theorem J0{G:bc}{d_ ji cf:Nat}(hB:qe (G d_))(hS:BU (G ji))(hW:mE (G cf)):uR (ah G 2 (mw d_ ji cf)):=by
 intro M f d hf hd;rw[bo];show dB G (mw d_ ji cf) [some (eE f),some (dc d)] M _ _ _ _
 cases d with
 | own m =>
  nofun;refine⟨s2,?_⟩;nofun;rw[show(([D.str "own",D.int m].length:Nat):Int)=2 from rfl,PH];nofun;rw[aI bq bq,BQ];nofun;exact hB M m _ (by rw[aE];exact hd)
 | dP m c =>
  nofun;refine⟨s2,?_⟩;nofun;rw[show(([D.str "hear",D.int m,D.str c].length:Nat):Int)=3 from rfl,Oe];nofun;rw[aI aX aX,BR];nofun;refine(hB M m _ (by rw[aE];exact hd.1)).imp ?_;rintro r M1 ⟨rfl,rfl⟩;nofun;exact hS M c hd.2
 | bI r k =>
  nofun;refine⟨s2,?_⟩;nofun;rw[show(([D.str "come",D.int r,D.int k].length:Nat):Int)=3 from rfl,Oe];nofun;rw[aI aB aX,BS];nofun;rw[aI aB aB,mZ];nofun;refine(hB M r _ (by rw[aE];exact hd)).imp ?_;rintro r M1 ⟨rfl,rfl⟩;nofun;exact hW M k
theorem Of{F:Fn}(hA:jh F){M:ag}{f:Fm}(hf:cH f){m:Nat}(hm:m<f.ru.length){s:Int}{c:Str}(hc:PyData.strOk c=true):aG (F [eE f,.int m,.int s,.str c] M) λr M'=>M=M'/\r=.d (Oa (an (nY f m) s c)):=by
 refine(hA _ M (f.ru.map sS) (f.ro.map uM) ((nY f m).map Ge) _ m s c (hf.at hm) (hf.Uc hm) hc).imp λr M' ⟨e1,e2⟩=>⟨e1,?_⟩;rw[e2,BN]
theorem BV{F:Fn}(hA:kM F){M:ag}{f:Fm}(hf:cH f){m:Nat}(hm:m<f.ru.length){s:Int}{c:Str}(hc:PyData.strOk c=true):aG (F [eE f,.int m,.int s,.str c] M) λr M'=>Ex M M'/\r=.d (Oa (an (nY f m) s c)):=by
 refine(hA _ M (f.ru.map sS) (f.ro.map uM) ((nY f m).map Ge) _ m s c ?_ (hf.at hm) (hf.Uc hm) (by rw[aE];exact(hf.mv hm).1) hc).imp λr M' ⟨e1,e2⟩=>⟨e1,?_⟩
 ·intro r h;have:=hf.l8;exact⟨h.1,∅⟩
 ·rw[e2,BN]
def qf(F:Fn):Prop:=∀(M:ag)(f:Fm)(N:Nat)(s:Sd)(r:Nat),cQ f N s->r<f.ro.length->aG (F [eS s,.int r] M) λo M'=>M=M'/\o=.lv ((load s r).2.map pD)
theorem J1{G:bc}:qf (ah G 2 uF):=by
 intro M f N s r hs hr;rw[bo];show dB G uF [some (eS s),some (.int r)] M _ _ _ _;nofun;rw[dQ (hs.E6 hr).1];exact⟨rfl,rfl⟩
theorem Sn{ds:List D}:cutD ds none (some 1)=ds.take 1:=by
 unfold cutD;have e1:HT.dw ds.length 0 none=0:=rfl
 have e2:HT.dw ds.length ds.length (some 1)=min 1 ds.length:=by
  show(if (1:Int)<0 then ((1:Int)+(ds.length:Int)).toNat else min (1:Int).toNat ds.length)=min 1 ds.length;rw[a8 (by decide)];rfl
 rw[e1,e2];cases ds<;>simp
theorem Og{M:ag}{n:Nat}{ds:List D}(h:M[n]?=some (.lst ds)):lB (.d (.aD n)) none (some 1) M=.ok (.lv (ds.take 1)) M:=by
 unfold lB;simp only[bN,h,Sn]
theorem E9{o:Str}{ps:List (Int×Str)}{N:Nat}(h:ps.length<=N):(iG o ps).length<=N:=by
 unfold iG;split
 ·rw[iI];omega
 ·exact h
theorem wF{o:Str}{ps:List (Int×Str)}{p:Int×Str}(h:p∈iG o ps):p∈ps:=by
 unfold iG at h;split at h
 ·exact wU h
 ·exact h
noncomputable def Oh:D->Option D
 | .tup [.int i,_]=>some (.int i)
 | _=>none
theorem wG:∀qs:List (Int×Str),(qs.map pD).filterMap Oh=(qs.map (·.1)).map D.int
 | []=>rfl
 | q::qs=>by
  have:=wG qs;rw[fC,j_,this];rfl
def J2(F:Fn):Prop:=∀(M:ag)(f:Fm)(N:Nat)(s:Sd)(r:Nat),cH f->cQ f N s->N<=900->r<f.ro.length->aG (F [eE f,eS s,.int r] M) λo M'=>o=.lv (((iG (cz f r).2.2 (load s r).2).map (·.1)).map D.int)/\Ex M M'
theorem sE{G:bc}{M M0:ag}{n:Nat}{ρ:En}{qs:List (Int×Str)}(hM:M[n]?=some (.lst (qs.map pD)))(hl:qs.length<=900){P:W->ag->Prop}(q:∀M',Ex M M'->P (.lv ((qs.map (·.1)).map D.int)) M')(So:ρ.length=3){k:Nat}(hk:k=(qs.map pD).length):aG (ba (λτ M=>bB G none τ M) (λτ M=>(ev G (.fK 1) τ M).bind own) (.at n) [1,2] k 0 ρ M []) P:=by
 refine wg (ds:=qs.map pD) Oh (by decide) (sk hM) (by rw[aE];exact l7 ∅) ?_ ?_ hk
 ·intro i M' d hd f;rw[dz]at hd
  cases e:qs[i]? with
  | none=>rw[e]at hd;cases hd
  | some p =>
   rw[e]at hd;cases hd;rcases ρ with _|⟨a,_|⟨b,_|⟨c,_|_⟩⟩⟩<;>simp at So;show _/\_;exact⟨rfl,f⟩
 ·intro M' f;rw[wG];exact q M' f
theorem Sq{G:bc}{eN:Nat}(hW:qf (G eN)):J2 (ah G 4 (JU eN)):=by
 intro M f N s r hf hs hN hr;obtain⟨h1,h2⟩:=hf.rd hr;obtain⟨h3,h4⟩:=hs.E6 hr;have h5:=h4.n;rw[bo];show dB G (JU eN) [some (eE f),some (eS s),some (.int r),none] M _ _ _ _;nofun;refine(hW M f N s r hs hr).imp ?_;rintro o M2 ⟨rfl,rfl⟩;nofun;have hM:(M++[MO.lst ((load s r).2.map pD)])[M.length]?=some (.lst ((load s r).2.map pD)):=aA;rw[dQ h1];nofun;rw[aI h2.ok BP]
 cases hq:((cz f r).2.2 == "row")with
 | true =>
  nofun;rw[Og hM];nofun;have J3:((M++[MO.lst ((load s r).2.map pD)])++[MO.lst (((load s r).2.map pD).take 1)])[(M++[MO.lst ((load s r).2.map pD)]).length]?=some (.lst (((load s r).2.take 1).map pD)):=by rw[List.map_take];exact aA
  rw[fT J3];refine sE (M0:=M) J3 (by rw[iI];omega) (λM' fr=>?_) rfl (si J3);refine⟨?_,Ex.trans (Fr.app (Fr.app (Ex.refl M))) fr⟩;unfold iG;rw[hq,aS rfl]
 | false =>
  nofun;rw[fT hM];refine sE (M0:=M) hM ∅ (λM' fr=>?_) rfl (si hM);refine⟨?_,Ex.trans (Fr.app (Ex.refl M)) fr⟩;unfold iG;rw[hq,a8 (by simp)]
theorem fg.mono{N N2:Nat}{l:Int×List (Int×Str)}(h:fg N l)(k:N<=N2):fg N2 l:=⟨⟨h.s.1,by have:=h.s.2;omega⟩,by have:=h.n;omega,h.p,h.r⟩
theorem fg.less{N:Nat}{l:Int×List (Int×Str)}(h:fg N l)(k:Int):fg N (less l k) :=
 ⟨h.s,cJ (List.length_filter_le _ _) h.n,λp hp=>h.p p (CN.mp hp).1,h.r.filter _⟩
theorem fg.more{N:Nat}{l:Int×List (Int×Str)}(h:fg N l){c:Str}(hc:cP c):fg (N+1) (more l c):=by
 refine⟨⟨by show 0<=l.1+1;have:=h.s;omega,by show l.1+1<=_;have:=h.s;omega⟩,by show(l.2++_).length<=_;rw[fB];have:=h.n;simp;omega,?_,?_⟩
 ·intro p hp;rcases fX.mp hp with q | q
  ·obtain⟨a,b,c⟩:=h.p p q;exact⟨a,b,by show p.1<l.1+1;omega⟩
  ·have:p=(l.1,c):=by simpa using q
   subst this;exact⟨hc,h.s.1,by show l.1<l.1+1;omega⟩
 ·show(l.2++[(l.1,c)]).Pairwise _;rw[List.pairwise_append];refine⟨h.r,List.pairwise_singleton _ _,λp hp q hq=>?_⟩;have:q=(l.1,c):=by simpa using hq
  subst this;exact(h.p p hp).2.2
theorem qg{α:Type}{P:α->Prop}{l:List α}{i:Nat}{x:α}(h:∀y∈l,P y)(hx:P x):∀y∈l.set i x,P y:=λy hy=>by
 rcases List.mem_or_eq_of_mem_set hy with z | z
 ·exact h y z
 ·rw[z];exact hx
theorem fz{α:Type}{P:α->Prop}{l:List α}{i:Nat}{d:α}(h:∀y∈l,P y)(hi:i<l.length):P (l.getD i d):=by
 rw[kR,cE hi];exact h _ (qE hi)
theorem n_{ld:List (Int×List (Int×Str))}{d:Dn}:(mB ld d).length=ld.length:=by
 cases d<;>simp[mB]
theorem mF{N:Nat}{ld:List (Int×List (Int×Str))}{d:Dn}(h:∀l∈ld,fg N l)(hd:∀r k,d=.bI r k->r<ld.length):∀l∈mB ld d,fg N l:=by
 cases d with
 | own m=>exact h
 | dP m c=>exact h
 | bI r k=>exact qg h ((fz h (hd r k rfl)).less k)
theorem jk{sd:List (Int×Str)}:∀{ld:List (Int×List (Int×Str))},(dY ld sd).length=ld.length:=by
 induction sd with
 | nil=>intro ld;rfl
 | cons p sd ih =>
  intro ld;show(dY (ld.set p.1.toNat (more (ld.getD p.1.toNat (0,[])) p.2)) sd).length=_;rw[ih,jt]
theorem og{ld:List (Int×List (Int×Str))}{sd:List (Int×Str)}{p:Int×Str}:dY ld (sd++[p])=(dY ld sd).set p.1.toNat (more ((dY ld sd).getD p.1.toNat (0,[])) p.2):=by
 unfold dY;rw[List.foldl_append];rfl
theorem kN{N:Nat}{sd:List (Int×Str)}:∀{ld:List (Int×List (Int×Str))}{n:Nat},(∀l∈ld,fg N l)->(∀p∈sd,cP p.2/\p.1.toNat<ld.length)->sd.length<=n->∀l∈dY ld sd,fg (N+n) l:=by
 induction sd generalizing N with
 | nil=>intro ld n h _ _ l hl;exact(h l hl).mono ∅
 | cons p sd ih =>
  intro ld n h hp hn;obtain⟨n,rfl⟩:∃m,n=m+1:=⟨n-1,by simp at hn;omega⟩;have h0:=hp p eg;rw[show N+(n+1)=N+1+n by omega];refine ih (N:=N+1) (ld:=ld.set p.1.toNat (more (ld.getD p.1.toNat (0,[])) p.2)) (n:=n) (qg (λy hy=>(h y hy).mono ∅) ((fz h h0.2).more h0.1)) (λq hq=>?_) (by simp at hn;omega);rw[jt];exact hp q (dC _ hq)
theorem yk.in{f:Fm}{m:Nat}{x:Int×List (Int×Str)×Option Str}(h:yk f m x):∀p∈x.2.1,cP p.2/\p.1.toNat<f.ro.length:=λp hp=>by
 obtain⟨a,b,r,c,_⟩:=h.sd p hp;exact⟨a,(bV.mp c).1⟩
theorem cQ.Gf{f:Fm}{N:Nat}{s:Sd}{d:Dn}(h:cQ f N s)(hd:da f d){x:Int×List (Int×Str)×Option Str}(hx:yk f (mc f d) x):cQ f (N+3) (Gf f s d x):=by
 have hl:(mB s.ld d).length=f.ro.length:=by rw[n_,h.ll]
 refine⟨by show(s.st.set _ _).length=_;rw[jt];exact h.ls,qg h.st hx.a,by show(dY _ _).length=_;rw[jk];exact hl,?_⟩;refine kN (mF h.ld λr k e=>?_) (λp hp=>by rw[hl];exact hx.in p hp) hx.l;subst e;rw[h.ll];exact hd
theorem BW{o:Option (Int×List (Int×Str)×Option Str)}:(!Bf (Oa o))=o.isSome:=by
 cases o with
 | none=>rfl
 | some x=>obtain⟨a,b,c⟩:=x;rfl
theorem BX{ps:List (Int×Str)}{k:Int}:(ps.find? λp=>p.1==k).isSome=decide (k∈ps.map (·.1)):=by
 rw[Bool.eq_iff_iff,List.find?_isSome,om,kg];constructor
 ·rintro⟨p,hp,e⟩;exact⟨p,hp,by simpa using e⟩
 ·rintro⟨p,hp,e⟩;exact⟨p,hp,by simpa using e⟩
theorem gO{f:Fm}{s:Sd}{r:Nat}{k:Int}:cs f s (.bI r k)=((iG (cz f r).2.2 (load s r).2).find? λp=>p.1==k).map (·.2):=rfl
theorem BY{f:Fm}{N:Nat}{s:Sd}(hs:cQ f N s){r:Nat}(hr:r<f.ro.length){k:Int}{c:Str}(h:cs f s (.bI r k)=some c):cP c:=by
 rw[gO]at h
 cases q:(iG (cz f r).2.2 (load s r).2).find? (λp=>p.1==k)with
 | none=>rw[q]at h;cases h
 | some p =>
  rw[q]at h;cases h;exact((hs.E6 hr).2.p p (wF (Gu q))).1
theorem wH{f:Fm}{N:Nat}{s:Sd}(hs:cQ f N s){r:Nat}(hr:r<f.ro.length){k:Int}:cn f s (.bI r k)=decide (k∈(iG (cz f r).2.2 (load s r).2).map (·.1)):=by
 rw[<- BX];unfold cn rp
 cases q:cs f s (.bI r k)with
 | none =>
  rw[gO]at q
  cases z:(iG (cz f r).2.2 (load s r).2).find? (λp=>p.1==k)with
  | none=>rfl
  | some p=>rw[z]at q;cases q
 | some c =>
  obtain⟨x,hx⟩:=p0 (mv:=nY f (mc f (.bI r k))) (s:=s.st.getD (mc f (.bI r k)) 0) (BY hs hr q);rw[show((some c).bind λc=>an (nY f (mc f (.bI r k))) (s.st.getD (mc f (.bI r k)) 0) c)=some x from hx];rw[gO]at q
  cases z:(iG (cz f r).2.2 (load s r).2).find? (λp=>p.1==k)with
  | none=>rw[z]at q;cases q
  | some p=>rfl
theorem J4{M:ag}{i:Int}{ks:List Int}:bg .isin (.d (.int i)) (.lv (iD ks)) M=.ok (decide (i∈ks)) M:=by
 unfold bg;simp only[BO,bN,p_,iE,qc,jv,dD,qd]
def BZ(F:Fn):Prop:=∀(M:ag)(f:Fm)(N:Nat)(s:Sd)(d:Dn),cH f->cQ f N s->N<=900->da f d->aG (F [eE f,eS s,dc d] M) λr M'=>Ex M M'/\r=.d (.bl (cn f s d))
theorem Sr{G:bc}{fV kAnswer sA:Nat}(hP:uR (G fV))(hA:jh (G kAnswer))(hM:J2 (G sA)):BZ (ah G 3 (BH fV kAnswer sA)):=by
 intro M f N s d hf hs hN hd;rw[bo];show dB G (BH fV kAnswer sA) [some (eE f),some (eS s),some (dc d)] M _ _ _ _;nofun;refine(hP M f d hf hd).imp ?_;rintro r M1 ⟨rfl,rfl⟩
 cases d with
 | own m =>
  nofun;rw[aI bq bq,BQ];nofun;rw[dQ (hs.KW hd).1];nofun;refine(Of hA hf hd bq).imp ?_;rintro r M2 ⟨rfl,rfl⟩;nofun;refine⟨Ex.refl _,?_⟩;rw[BW];rfl
 | dP m c =>
  nofun;rw[aI aX bq,JW];nofun;rw[aI aX aB,uQ];nofun;refine⟨Ex.refl _,?_⟩;obtain⟨x,hx⟩:=p0 (mv:=nY f m) (s:=s.st.getD m 0) hd.2;show W.d (.bl true)=.d (.bl (an (nY f m) (s.st.getD m 0) c).isSome);rw[hx];rfl
 | bI r k =>
  nofun;rw[aI aB bq,E8];nofun;rw[aI aB aB,mZ];nofun;refine(hM M f N s r hf hs hN hd).imp ?_;rintro o M2 ⟨rfl,f2⟩;nofun;rw[show((iG (cz f r).2.2 (load s r).2).map (·.1)).map D.int=iD ((iG (cz f r).2.2 (load s r).2).map (·.1)) from rfl,J4];exact⟨f2,by rw[wH hs hd]⟩
def PJ(p:Int×Str):bA×D:=(Sum.inl p.1,.str p.2)
theorem E_{acc:List (bA×D)}{k:bA}{d:D}(h:∀a∈acc,a.1≠k):lC acc k d=acc++[(k,d)]:=by
 unfold lC;rw[a8];intro z;rw[List.any_eq_true]at z;obtain⟨a,ha,e⟩:=z;exact h a ha (CJ e)
theorem sF:∀{ps:List (Int×Str)}{acc:List (bA×D)},(∀p∈ps,∀a∈acc,a.1≠(Sum.inl p.1:bA))->(ps.Pairwise λp q=>p.1<q.1)->xQ acc (ps.map pD)=some (acc++ps.map PJ)
 | [],acc,_,_=>by rw[mP,mP,qF];rfl
 | p::ps,acc,h,hr=>by
  obtain⟨r1,r2⟩:=CF.mp hr;show xQ (lC acc (Sum.inl p.1) (.str p.2)) (ps.map pD)=_;rw[E_ (h p eg),sF (ps:=ps) ?_ r2,yP]
  ·rfl
  ·intro q hq a ha;rcases fX.mp ha with z | z
   ·exact h q (dC _ hq) a z
   ·have:a=(Sum.inl p.1,.str p.2):=by simpa using z
    subst this;intro e;have e:=Sum.inl.inj e;have:=r1 q hq;omega
theorem yn{M:ag}{ps:List (Int×Str)}(h:ps.Pairwise λp q=>p.1<q.1):kA .nJ [.lv (ps.map pD)] M=.ok (.d (.aD M.length)) (M++[.dK (ps.map PJ)]):=by
 unfold kA;simp only[gV,bN];rw[sF (acc:=[]) (λp _ a ha=>by cases ha) h];rfl
theorem J5{M:ag}{n:Nat}{ps:List (Int×Str)}{k:Int}{p:Int×Str}(hM:M[n]?=some (.dK (ps.map PJ)))(h:(ps.find? λp=>p.1==k)=some p):cW (.d (.aD n)) (.d (.int k)) M=.ok (.d (.str p.2)) M:=by
 have e:iU (ps.map PJ) (Sum.inl k:bA)=some (.str p.2):=by
  unfold iU;rw[mC (q:=λp=>p.1==k) (λa=>by show decide ((Sum.inl a.1:bA)=Sum.inl k)=_;rw[y_]),h];rfl
 unfold cW;simp only[hM,bN,e]
theorem B0{o:Str}{ps:List (Int×Str)}{k:Int}{p:Int×Str}(h:((iG o ps).find? λp=>p.1==k)=some p):(ps.find? λp=>p.1==k)=some p:=by
 unfold iG at h;split at h
 ·cases ps with
  | nil=>cases h
  | cons q ps =>
   rw[show(q::ps).take 1=[q] from rfl]at h;rw[ie]at h⊢
   cases z:(q.1==k)with
   | true=>rw[z]at h;exact h
   | false=>rw[z]at h;cases h
 ·exact h
def uS(F:Fn):Prop:=∀(M:ag)(f:Fm)(N:Nat)(s:Sd)(d:Dn)(c:Str),cH f->cQ f N s->da f d->cs f s d=some c->aG (F [eS s,dc d] M) λr M'=>Ex M M'/\r=.d (.str c)
theorem J6{G:bc}{eN:Nat}(hW:qf (G eN)):uS (ah G 2 (uG eN)):=by
 intro M f N s d c hf hs hd hc;rw[bo];show dB G (uG eN) [some (eS s),some (dc d)] M _ _ _ _
 cases d with
 | own m =>
  cases hc;nofun;rw[aI bq bq,BQ];exact⟨Ex.refl _,rfl⟩
 | dP m c' =>
  cases hc;nofun;rw[aI aX bq,JW];nofun;rw[aI aX aX,BR];exact⟨Ex.refl _,rfl⟩
 | bI r k =>
  nofun;rw[aI aB bq,E8];nofun;rw[aI aB aX,BS];nofun;refine(hW M f N s r hs hd).imp ?_;rintro o M1 ⟨rfl,rfl⟩;nofun;rw[yn (hs.E6 hd).2.r];nofun;rw[gO]at hc
  cases q:(iG (cz f r).2.2 (load s r).2).find? (λp=>p.1==k)with
  | none=>rw[q]at hc;cases hc
  | some p =>
   rw[q]at hc;cases hc;rw[J5 aA (B0 q)];exact⟨(Ex.refl M).app,rfl⟩
noncomputable def J7(k:Int):D->Option D
 | .tup [.int i,x]=>if (i==k)=true then none else some (.tup [.int i,x])
 | _=>none
theorem sG{k:Int}:∀ps:List (Int×Str),(ps.map pD).filterMap (J7 k)=(ps.filter λp=>!(p.1==k)).map pD
 | []=>rfl
 | p::ps=>by
  have:=sG (k:=k) ps;rw[fC,j_,List.filter_cons,this];rw[show J7 k (pD p)=if (p.1==k)=true then none else some (pD p) from rfl];cases p.1==k<;>rfl
theorem sH{G:bc}{M:ag}{it:It}{ρ:En}{ps:List (Int×Str)}{k:Int}{cond:dZ}(hit:∀M',Ex M M'->∀i,i<=(ps.map pD).length->itemAt M' i it=some (ps.map pD)[i]?)(hl:ps.length<=1000){P:W->ag->Prop}(hc:∀(M':ag)(p:Int×Str)(Q:Bool->ag->Prop),p∈ps->Q (!(p.1==k)) M'->jd G (some cond) (ρ.set 1 (some (pD p))) M' Q)(So:1<ρ.length)(q:∀M',Ex M M'->P (.lv ((ps.filter λp=>!(p.1==k)).map pD)) M'){n:Nat}(hn:n=(ps.map pD).length):aG (ba (λτ M=>bB G (some cond) τ M) (λτ M=>(ev G (.fK 1) τ M).bind own) it [1] n 0 ρ M []) P:=by
 refine wg (ds:=ps.map pD) (J7 k) (by decide) hit (by rw[aE];exact l7 hl) ?_ ?_ hn
 ·intro i M' d hd f;rw[dz]at hd
  cases e:ps[i]? with
  | none=>rw[e]at hd;cases hd
  | some p =>
   rw[e]at hd;cases hd;show jd G (some cond) (ρ.set 1 (some (pD p))) M' _;refine hc M' p _ (gQ e) ?_
   have hv:∀Q:D->Prop,Q (pD p)->ED (ρ.set 1 (some (pD p)))[1]? Q:=λQ h=>by
    rw[kS So];exact h
   cases z:(p.1==k)with
   | true =>
    show _/\_;refine⟨?_,f⟩;show(if (p.1==k)=true then none else _)=_;rw[z];rfl
   | false =>
    show ED (ρ.set 1 (some (pD p)))[1]? _;refine hv _ ?_;refine⟨?_,f⟩;show(if (p.1==k)=true then none else _)=_;rw[z];rfl
 ·intro M' f;rw[sG];exact q M' f
def B1(F:Fn):Prop:=∀(M:ag)(l:Int×List (Int×Str))(k:Int),l.2.length<=1000->aG (F [j8 l,.int k] M) λr M'=>Ex M M'/\r=.d (j8 (less l k))
theorem Oi{G:bc}:B1 (ah G 2 BI):=by
 intro M l k hl;rw[bo];show dB G BI [some (j8 l),some (.int k)] M _ _ _ _;nofun;refine sH (ps:=l.2) (k:=k) (it:=.items (l.2.map pD)) Bq hl ?_ ?_ (λM' f=>?_) rfl
 ·intro M' p Q _ h;exact h
 ·show 1<3;decide
 nofun;exact⟨s2,f,rfl⟩
def wI(F:Fn):Prop:=∀(M:ag)(l:Int×List (Int×Str))(c:Str),l.2.length<=1000->aG (F [j8 l,.str c] M) λr M'=>M=M'/\r=.d (j8 (more l c))
theorem Oj{G:bc}:wI (ah G 2 BJ):=by
 intro M l c hl;rw[bo];show dB G BJ [some (j8 l),some (.str c)] M _ _ _ _;nofun;refine⟨s2,s1,?_⟩;nofun;refine⟨cJ (show(l.2.map pD).length+1<=1001 by rw[aE];omega) (by decide),?_⟩;nofun;refine⟨s2,rfl,?_⟩;show W.d (.tup [.int (l.1+1),.tup (l.2.map pD++[pD (l.1,c)])])=_;unfold more j8;rw[qG];rfl
theorem Ol{ld:List (Int×List (Int×Str))}{r:Nat}(h:r<ld.length):(ld.map j8)[r]?=some (j8 (ld.getD r (0,[]))):=by
 rw[dz,kR,cE h];rfl
def ib(F:Fn):Prop:=∀(M:ag)(f:Fm)(N:Nat)(s:Sd)(d:Dn)(x:Int×List (Int×Str)×Option Str),cH f->cQ f N s->N<=900->da f d->rp f s d=some x->aG (F [eE f,eS s,dc d] M) λr M'=>Ex M M'/\r=.d (.tup [eS (Gf f s d x),KU f d x])
def Om(ia:Nat):List S:=[.dI [7,8] .seq [(.ks 4 1)] [.put 6 7 (.call ia [(.sub 6 7),8])],.asg [9] (.bf .aJ),.iff (.val (.cmp .fc (.ks 4 2) (.bf .aJ))) [.asg [9] (.tup [3,(.ks 4 2)])] [],.ret (.tup [(.tup [(.bi .tuple1 [5]),(.bi .tuple1 [6])]),9])]
noncomputable def PK(m:Nat):Option Str->D
 | none=>.aJ
 | some w=>.tup [.int m,.str w]
theorem jT{G:bc}{ia:Nat}(Oo:wI (G ia)){M0 M:ag}{n5 n6 m N:Nat}{o0 o1 o2 o7 o8 o9:Option D}{a:Int}{sd:List (Int×Str)}{w:Option Str}{st:List Int}{ld:List (Int×List (Int×Str))}{nx:En->ag->Prop}{rt:W->ag->Prop}{bk ct:En->ag->Prop}(h5:M[n5]?=some (.lst (st.map D.int)))(h6:M[n6]?=some (.lst (ld.map j8)))(vO:n5≠n6)(W9:M0.length<=n6)(fr:Ex M0 M)(KI:∀l∈ld,fg N l)(hN:N<=900)(mj:∀p∈sd,cP p.2/\0<=p.1/\p.1.toNat<ld.length)(h3:sd.length<=3)(q:∀M',Ex M0 M'->rt (.d (.tup [.tup [.tup (st.map D.int),.tup ((dY ld sd).map j8)],PK m w])) M'):dB G (Om ia) [o0,o1,o2,some (.int m),some (.tup [.int a,.tup (sd.map pD),JV w]),some (.aD n5),some (.aD n6),o7,o8,o9] M nx rt bk ct:=by
 nofun;refine je (ds:=sd.map pD) (λi ρ M'=>∃o7 o8,ρ=[o0,o1,o2,some (.int m),some (.tup [.int a,.tup (sd.map pD),JV w]),some (.aD n5),some (.aD n6),o7,o8,o9]/\M'[n5]?=some (.lst (st.map D.int))/\M'[n6]?=some (.lst ((dY ld (sd.take i)).map j8))/\Ex M0 M') ⟨_,_,rfl,h5,h6,fr⟩ ?_ ?_
 ·rintro i ρ M' dd ku ⟨o7,o8,rfl,g5,g6,Fb⟩;rw[dz]at ku
  cases e:sd[i]? with
  | none=>rw[e]at ku;cases ku
  | some p =>
   rw[e]at ku;cases ku;obtain⟨p1,p2,p3⟩:=mj p (gQ e);have hi:=(bV.mp e).1;have yI:p.1.toNat<(dY ld (sd.take i)).length:=by rw[jk];exact p3
   have bt:=kN (n:=i) KI (λq hq=>⟨(mj q (wU hq)).1,(mj q (wU hq)).2.2⟩) (by rw[iI];omega:(sd.take i).length<=i);have tQ:=fz (d:=((0:Int),([]:List (Int×Str)))) bt yI;have PL:=tQ.n;nofun;rw[bh g6 p2 (Ol yI)];nofun;refine(Oo M' _ p.2 ∅).imp ?_;rintro r M2 ⟨rfl,rfl⟩;nofun;rw[l5 g6 p2 (by rw[aE];exact yI)];refine⟨_,_,rfl,bw g5 vO,?_,Fb.set W9⟩;rw[bH g6,dN e,og,<- List.map_set]
 ·rintro ρ M' ⟨o7,o8,rfl,g5,g6,Fb⟩;rw[aE,oo]at g6
  cases w with
  | none =>
   nofun;rw[bR g5];nofun;rw[bR g6];nofun;exact⟨s2,s2,q M' Fb⟩
  | some x =>
   nofun;refine⟨s2,?_⟩;nofun;rw[bR g5];nofun;rw[bR g6];nofun;exact⟨s2,s2,q M' Fb⟩
theorem Oq{G:bc}{sC kAnswer mx sD ia:Nat}(Ss:nZ (G sC))(hA:jh (G kAnswer))(hC:uS (G mx))(hL:B1 (G sD))(Oo:wI (G ia)):ib (ah G 10 (BK sC kAnswer mx sD ia)):=by
 intro M f N s d x hf hs hN hd hx;have hm:=hd.mc hf;have B2:=wD hf hs hd hx
 obtain⟨c,hc,W_⟩:∃c,cs f s d=some c/\an (nY f (mc f d)) (s.st.getD (mc f d) 0) c=some x:=by
  unfold rp at hx
  cases q:cs f s d with
  | none=>rw[q]at hx;cases hx
  | some c=>rw[q]at hx;exact⟨c,rfl,hx⟩
 have Xa:PyData.strOk c=true:=by
  cases d with
  | own m=>cases hc;exact bq
  | dP m c'=>cases hc;exact hd.2.ok.1
  | bI r k=>exact(BY hs hd hc).ok.1
 obtain⟨a,sd,w⟩:=x;rw[bo];show dB G (BK sC kAnswer mx sD ia) [some (eE f),some (eS s),some (dc d),none,none,none,none,none,none,none] M _ _ _ _;nofun;refine(Ss M f d hf hd).imp ?_;rintro r M1 ⟨rfl,rfl⟩;nofun;rw[dQ (hs.KW hm).1];nofun;refine(hC M f N s d c hf hs hd hc).imp ?_;rintro r M1 ⟨f1,rfl⟩;nofun;refine(Of hA hf hm Xa).imp ?_;rintro r M2 ⟨rfl,rfl⟩;rw[W_];nofun;have e6:mc f d<(s.st.map D.int).length:=by rw[aE,hs.ls];exact hm
 rw[kJ aA e6];nofun;have g5:((M1++[MO.lst (s.st.map D.int)]).set M1.length (.lst ((s.st.map D.int).set (mc f d) (.int a))))[M1.length]?=some (.lst ((s.st.set (mc f d) a).map D.int)):=by rw[bH aA,List.map_set]
 have oN:Ex M ((M1++[MO.lst (s.st.map D.int)]).set M1.length (.lst ((s.st.map D.int).set (mc f d) (.int a)))):=Fr.set (Fr.app f1) f1.1;have JM:=f1.1;generalize (M1++[MO.lst (s.st.map D.int)]).set M1.length (.lst ((s.st.map D.int).set (mc f d) (.int a)))=M5 at g5 oN⊢;have g6:(M5++[MO.lst (s.ld.map j8)])[M5.length]?=some (.lst (s.ld.map j8)):=aA;have Su:(M5++[MO.lst (s.ld.map j8)])[M1.length]?=some (.lst ((s.st.set (mc f d) a).map D.int)):=aW g5;have lu:=aV g5;have DE:=oN.1
 have mj:∀(ld:List (Int×List (Int×Str))),ld.length=f.ro.length->∀p∈sd,cP p.2/\0<=p.1/\p.1.toNat<ld.length:=λld hl p hp=>by
  obtain⟨a,b,r,c,_⟩:=B2.sd p hp;exact⟨a,b,by rw[hl];exact(bV.mp c).1⟩
 have yJ:KU f d (a,sd,w)=PK (mc f d) w:=by cases w<;>rfl
 rw[yJ]
 cases d with
 | own m =>
  nofun;rw[aI bq aB,ym];refine jT Oo (M0:=M) (ld:=s.ld) (N:=N) Su g6 ∅ DE (Fr.app oN) hs.ld hN (mj _ hs.ll) B2.l λM' fr=>⟨fr,rfl⟩
 | dP m c' =>
  nofun;rw[aI aX aB,uQ];refine jT Oo (M0:=M) (ld:=s.ld) (N:=N) Su g6 ∅ DE (Fr.app oN) hs.ld hN (mj _ hs.ll) B2.l λM' fr=>⟨fr,rfl⟩
 | bI r k =>
  have hr:r<s.ld.length:=by rw[hs.ll];exact hd
  have tQ:=fz (d:=((0:Int),([]:List (Int×Str)))) hs.ld hr;have PL:=tQ.n;nofun;rw[aI aB aB,mZ];nofun;rw[sg g6 (Ol hr)];nofun;refine(hL _ _ k ∅).imp ?_;rintro o M7 ⟨f7,rfl⟩;nofun;have Ue:=Ex.get f7 g6;rw[kJ Ue (by rw[aE];exact hr)];refine jT Oo (M0:=M) (ld:=mB s.ld (.bI r k)) (N:=N) (bw (Ex.get f7 Su) ∅) ?_ ∅ DE ?_ (mF hs.ld λr' k' e=>by cases e;exact hr) hN (mj _ (by rw[n_];exact hs.ll)) B2.l λM' fr=>⟨fr,rfl⟩
  ·rw[bH Ue,<- List.map_set];rfl
  ·exact Fr.set (Ex.trans (Fr.app oN) f7) DE
noncomputable def tD(x:Nat×Int×Str):D:=.tup [.int x.1,.int x.2.1,.str x.2.2]
def fl(f:Fm)(s:Sd):Nat->List (Nat×Int×Str)
 | 0=>[]
 | n+1=>fl f s n++(iG (cz f n).2.2 (load s n).2).map λp=>(n,p.1,p.2)
theorem qh{f:Fm}{s:Sd}{x:Nat×Int×Str}:∀n,x∈fl f s n↔x.1<n/\(x.2.1,x.2.2)∈iG (cz f x.1).2.2 (load s x.1).2
 | 0=>by simp[fl]
 | n+1=>by
  obtain⟨r,k,c⟩:=x;show(r,k,c)∈fl f s n++_↔_;rw[fX,qh n,kg];constructor
  ·rintro(⟨h1,h2⟩|⟨p,hp,e⟩)
   ·exact⟨by show r<n+1;have:r<n:=h1;omega,h2⟩
   ·cases e;exact⟨by show n<n+1;omega,hp⟩
  ·rintro⟨h1,h2⟩;by_cases q:r=n
   ·subst q;exact .inr ⟨(k,c),h2,rfl⟩
   ·exact .inl ⟨by show r<n;have:r<n+1:=h1;omega,h2⟩
theorem uT{f:Fm}{N:Nat}{s:Sd}(hs:cQ f N s):∀n,n<=f.ro.length->(fl f s n).length<=N*n
 | 0,_=>by simp[fl]
 | n+1,h=>by
  have h1:=uT hs n ∅;have h2:=E9 (o:=(cz f n).2.2) (hs.E6 (r:=n) ∅).2.n;show(fl f s n++_).length<=_;rw[fB,aE,Nat.mul_succ];omega
theorem wJ{M:ag}{n:Nat}{xs ys:List D}(h:M[n]?=some (.lst xs))(hl:xs.length+ys.length<=sizeLine):pq .add (.d (.aD n)) (.lv ys) M=.ok (.lv (xs++ys)) M:=by
 unfold pq;simp only[ff,h];rw[aS hl]
noncomputable def Ot(r:Nat):D->Option D
 | .tup [.int i,x]=>some (.tup [.int r,.int i,x])
 | _=>none
theorem wK{r:Nat}:∀qs:List (Int×Str),(qs.map pD).filterMap (Ot r)=(qs.map λp=>(r,p.1,p.2)).map tD
 | []=>rfl
 | q::qs=>by
  have:=wK (r:=r) qs;rw[fC,j_,this];rfl
theorem sI{G:bc}{M:ag}{n r:Nat}{qs:List (Int×Str)}(hM:M[n]?=some (.lst (qs.map pD)))(hl:qs.length<=900){P:W->ag->Prop}(q:∀M',Ex M M'->P (.lv ((qs.map λp=>(r,p.1,p.2)).map tD)) M'){k:Nat}(hk:k=(qs.map pD).length):aG (ba (λτ M=>bB G none τ M) (λτ M=>(ev G (.tup [(.fK 3),(.fK 1),(.fK 2)]) τ M).bind own) (.at n) [1,2] k 0 [none,none,none,some (.int r)] M []) P:=by
 refine wg (ds:=qs.map pD) (Ot r) (by decide) (sk hM) (by rw[aE];exact l7 ∅) ?_ ?_ hk
 ·intro i M' d hd f;rw[dz]at hd
  cases e:qs[i]? with
  | none=>rw[e]at hd;cases hd
  | some p =>
   rw[e]at hd;cases hd;nofun;exact⟨s3,rfl,f⟩
 ·intro M' f;rw[wK];exact q M' f
def kO(F:Fn):Prop:=∀(M:ag)(f:Fm)(N:Nat)(s:Sd),cH f->cQ f N s->N<=900->aG (F [eE f,eS s] M) λr M'=>∃n,r=.d (.aD n)/\M.length<=n/\M'[n]?=some (.lst ((fl f s f.ro.length).map tD))/\Ex M M'
theorem Fc{G:bc}:kO (ah G 5 pY):=by
 intro M f N s hf hs hN;have h8:=hf.l8;rw[bo];show dB G pY [some (eE f),some (eS s),none,none,none] M _ _ _ _;nofun;refine⟨s0,?_⟩;nofun;refine⟨⟨by rw[aE];omega,by rw[aE];omega⟩,?_⟩;refine j6 (n:=((f.ro.map uM).length:Int).toNat) (λi ρ M'=>∃o3 o4 n,ρ=[some (eE f),some (eS s),some (.aD n),o3,o4]/\M.length<=n/\M'[n]?=some (.lst ((fl f s i).map tD))/\Ex M M') ⟨_,_,M.length,rfl,aL _,aA,(Ex.refl M).app⟩ ?_ ?_
 ·rintro i ρ M1 hi ⟨o3,o4,n,rfl,KR,hn,f1⟩;have hi:i<f.ro.length:=by rw[aE]at hi;omega
  obtain⟨h1,h2⟩:=hf.rd hi;obtain⟨h3,h4⟩:=hs.E6 hi;have h5:=h4.n;have Zc:=uT hs i ∅;rw[show(0:Int)+(i:Int)=((i:Nat):Int) by omega];nofun;rw[dQ h3];nofun;have hM:(M1++[MO.lst ((load s i).2.map pD)])[M1.length]?=some (.lst ((load s i).2.map pD)):=aA;rw[dQ h1];nofun;rw[aI h2.ok BP];have Ou:M.length<=M1.length:=f1.1;have Zd:N*i<=900*8:=Nat.mul_le_mul hN ∅
  cases hq:((cz f i).2.2 == "row")with
  | true =>
   nofun;rw[Og hM];nofun;have J3:((M1++[MO.lst ((load s i).2.map pD)])++[MO.lst (((load s i).2.map pD).take 1)])[(M1++[MO.lst ((load s i).2.map pD)]).length]?=some (.lst (((load s i).2.take 1).map pD)):=by rw[List.map_take];exact aA
   have Mg:((M1++[MO.lst ((load s i).2.map pD)])++[MO.lst (((load s i).2.map pD).take 1)])[n]?=some (.lst ((fl f s i).map tD)):=aW (aW hn);have f2:Ex M ((M1++[MO.lst ((load s i).2.map pD)])++[MO.lst (((load s i).2.map pD).take 1)]):=Fr.app (Fr.app f1);have Sv:iG (cz f i).2.2 (load s i).2=(load s i).2.take 1:=by unfold iG;rw[hq,aS rfl]
   rw[fT J3];refine sI (r:=i) J3 (by rw[iI];omega) (λM' fr=>?_) (si J3);nofun;rw[wJ (Ex.get fr Mg) (cJ (show _<=900*8+1000 by simp only[aE,iI];omega) (by decide))];have f3:=Ex.trans f2 fr;refine⟨_,_,M'.length,rfl,f3.1,?_,Fr.app f3⟩;rw[<- qG,<- Sv];exact aA
  | false =>
   nofun;have Mg:(M1++[MO.lst ((load s i).2.map pD)])[n]?=some (.lst ((fl f s i).map tD)):=aW hn;have Sv:iG (cz f i).2.2 (load s i).2=(load s i).2:=by unfold iG;rw[hq,a8 (by simp)]
   rw[fT hM];refine sI (r:=i) hM ∅ (λM' fr=>?_) (si hM);nofun;rw[wJ (Ex.get fr Mg) (cJ (show _<=900*8+1000 by simp only[aE];omega) (by decide))];have f3:Ex M M':=Ex.trans (Fr.app f1) fr;refine⟨_,_,M'.length,rfl,f3.1,?_,Fr.app f3⟩;rw[<- qG];show _=some (MO.lst ((fl f s i++(iG (cz f i).2.2 (load s i).2).map λp=>(i,p.1,p.2)).map tD));rw[Sv];exact aA
 ·rintro ρ M1 ⟨o3,o4,n,rfl,KR,hn,f1⟩;nofun;rw[show((f.ro.map uM).length:Int).toNat=f.ro.length by rw[aE];omega]at hn;exact⟨n,rfl,KR,hn,f1⟩
theorem Fe{M:ag}{a b c d:Int}:bg .eq (.d (.tup [.int a,.int b])) (.d (.tup [.int c,.int d])) M=.ok (a==c&&b==d) M:=by
 have h1:∀(s c:Int),iH M (.d (.tup [.int s,.int c]))=some (.tuple [.int s,.int c]):=λs c=>by
  show cM M 30 (.tup [.int s,.int c])=_
  try simp only[cM,bC,tf]
 have h2:∀(s c:Int),SeqAt.shaped (.tuple [.int s,.int c])=true:=λs c=>by
  unfold SeqAt.shaped
  try simp only[wX,sW,sV,qz,wZ,sY,sX,qC]
  rfl
 unfold bg
 try simp only[h1,h2,jv,dD,PyData.eqv.eq_8,PyData.eqvAll.eq_2,CI,yW,Bool.and_true]
theorem Ov{M:ag}{a b:D}:jI (.d (.tup [a,b])) 2 M=.ok (.d (.tup [a])) M:=by
 unfold jI;have e:cY [a,b] 2=[a]:=by simp[cY,Builtin.Slice.sliceAdjust,Builtin.Slice.slicePlaces]
 try simp only[e]
 rw[aS ⟨.inl trivial,(show(1:Nat)<=sizeLine by decide)⟩]
theorem Ow{M:ag}{a b c:D}:jI (.d (.tup [a,b,c])) 2 M=.ok (.d (.tup [a,c])) M:=by
 unfold jI;have e:cY [a,b,c] 2=[a,c]:=by simp[cY,Builtin.Slice.sliceAdjust,Builtin.Slice.slicePlaces,List.range_succ]
 try simp only[e]
 rw[aS ⟨.inl trivial,(show(2:Nat)<=sizeLine by decide)⟩]
theorem oh{k:Int}{c:Str}:∀{ps:List (Int×Str)},(ps.Pairwise λp q=>p.1<q.1)->(k,c)∈ps->(ps.find? λp=>p.1==k)=some (k,c)
 | [],_,h=>by cases h
 | p::ps,hr,h=>by
  obtain⟨r1,r2⟩:=CF.mp hr;rw[ie];rcases bS.mp h with z | z
  ·rw[<- z];simp
  ·have:=r1 _ z
   have vO:(p.1==k)=false:=by
    have:p.1<k:=this;simp;omega
   rw[vO];exact oh r2 z
theorem B3{o:Str}{ps:List (Int×Str)}(h:ps.Pairwise λp q=>p.1<q.1):(iG o ps).Pairwise λp q=>p.1<q.1:=by
 unfold iG;split
 ·exact h.take
 ·exact h
theorem Ox{f:Fm}{N:Nat}{s:Sd}(hs:cQ f N s){r:Nat}(hr:r<f.ro.length){k:Int}{c:Str}(h:(k,c)∈iG (cz f r).2.2 (load s r).2):cs f s (.bI r k)=some c:=by
 rw[gO,oh (B3 (hs.E6 hr).2.r) h];rfl
theorem J8{f:Fm}{s:Sd}{r:Nat}{k:Int}(h:∀c,(k,c)∉iG (cz f r).2.2 (load s r).2):cs f s (.bI r k)=none:=by
 rw[gO]
 cases q:(iG (cz f r).2.2 (load s r).2).find? (λp=>p.1==k)with
 | none=>rfl
 | some p =>
  have h1:=Gu q;have h2:p.1=k:=by simpa using List.find?_some q
  obtain⟨k',c⟩:=p;cases h2;exact absurd h1 (h c)
def mG(F:Fn):Prop:=∀(M:ag)(f:Fm)(N:Nat)(s:Sd)(d:Dn),cH f->cQ f N s->N<=900->da f d->aG (F [eE f,eS s,dc d] M) λr M'=>Ex M M'/\r=.d (Oa (rp f s d))
theorem J9{G:bc}{nX dv:Nat}(hL:kM (G nX))(hC:kO (G dv)):mG (ah G 7 (uH nX dv)):=by
 intro M f N s d hf hs hN hd;rw[bo];show dB G (uH nX dv) [some (eE f),some (eS s),some (dc d),none,none,none,none] M _ _ _ _
 cases d with
 | own m =>
  nofun;rw[Bp bq aB,ym];nofun;rw[dQ (hs.KW hd).1];nofun;rw[show jI (.d (dc (.own m))) 2 M=.ok (.d (.tup [.str "own"])) M from Ov];nofun;exact BV hL hf hd bq
 | dP m c =>
  nofun;rw[Bp aX aB,uQ];nofun;rw[dQ (hs.KW hd.1).1];nofun;rw[show jI (.d (dc (.dP m c))) 2 M=.ok (.d (.tup [.str "hear",.str c])) M from Ow];nofun;exact BV hL hf hd.1 hd.2.ok.1
 | bI r k =>
  have hd:r<f.ro.length:=hd;nofun;rw[Bp aB aB,mZ];nofun;refine(hC M f N s hf hs hN).imp ?_;rintro o M1 ⟨n,rfl,KR,hn,f1⟩;nofun;rw[fT hn];refine NS (n:=n) (ds:=(fl f s f.ro.length).map tD) (λj ρ M'=>∃o3 o4 o5 o6,M1=M'/\ρ=[some (eE f),some (eS s),some (.tup [.str "come",.int r,.int k]),o3,o4,o5,o6]/\∀c,(r,k,c)∉(fl f s f.ro.length).take j) (by rintro j ρ M' ⟨_,_,_,_,e,_⟩;rw[<- e];exact hn) ⟨_,_,_,_,rfl,rfl,(by intro s h;cases h)⟩ ?_ ?_
  ·rintro j ρ M' dd ku ⟨o3,o4,o5,o6,rfl,rfl,Ff⟩;rw[dz]at ku
   cases e:(fl f s f.ro.length)[j]? with
   | none=>rw[e]at ku;cases ku
   | some x =>
    rw[e]at ku;cases ku;obtain⟨r',k',c⟩:=x;obtain⟨g1,g2⟩:=(qh f.ro.length).mp (gQ e);have g1:r'<f.ro.length:=g1;have g2:(k',c)∈iG (cz f r').2.2 (load s r').2:=g2;nofun;refine⟨s2,?_⟩;show dU (bg .eq (.d (.tup [.int (r':Nat),.int k'])) (.d (.tup [.int (r:Nat),.int k])) M1) _;rw[Fe]
    cases hq:(((r':Int)==(r:Int))&&(k'==k))with
    | true =>
     rw[aK,gR,gR]at hq;have er:r'=r:=∅;subst er;obtain⟨_,rfl⟩:=hq;obtain⟨h1,h2⟩:=hf.rd g1;have hb:=h2.b;have hm:=da.mc hf (d:=.bI r' k') g1;have em:(cz f r').2.1=((mc f (.bI r' k'):Nat):Int):=by show _=(((cz f r').2.1.toNat:Nat):Int);omega
     nofun;rw[dQ h1];nofun;rw[em,dQ (hs.KW hm).1];nofun;refine(BV hL hf hm ((hs.E6 g1).2.p _ (wF g2)).1.ok.1).imp λo M2 ⟨f2,e2⟩=>⟨Ex.trans f1 f2,?_⟩;rw[e2];unfold rp;rw[Ox hs g1 g2];rfl
    | false =>
     refine⟨_,_,_,_,rfl,rfl,λc' zd=>?_⟩;rw[dN e]at zd;rcases fX.mp zd with z | z
     ·exact Ff c' z
     ·have z:(r,k,c')=(r',k',c):=by simpa using z
      cases z;simp at hq
  ·rintro ρ M' ⟨o3,o4,o5,o6,rfl,rfl,Ff⟩;rw[aE,oo]at Ff;refine⟨f1,?_⟩;show W.d .aJ=_;unfold rp;rw[J8 λc hc=>Ff c ((qh _).mpr ⟨hd,hc⟩)];rfl
noncomputable def sJ(a b:Int):List Int:=(List.range (b-a).toNat).map λk=>a+((k:Nat):Int)
theorem B4{a b:Int}(h:b<=a):sJ a b=[]:=by
 unfold sJ;rw[show(b-a).toNat=0 by omega];rfl
theorem yo{a b:Int}(h:a<b):sJ a b=a::sJ (a+1) b:=by
 unfold sJ;obtain⟨n,hn⟩:∃n,(b-a).toNat=n+1:=⟨(b-a).toNat-1,∅⟩;rw[hn,show(b-(a+1)).toNat=n by omega,List.range_succ_eq_map,fC,List.map_map];refine congr (oq List.cons (by simp)) (List.map_congr_left λk _=>?_);show a+((k+1:Nat):Int)=a+1+(k:Int);omega
def Sw(l:Int×List (Int×Str)):List Int:=l.2.map (·.1)
def B5(l:Int×List (Int×Str)):Prop:=Sw l=sJ (l.1-(l.2.length:Int)) l.1
def uU(F:Fn):Prop:=∀(M:ag)(w:Nat)(T:Int)(o:Str),WA M w T->T<10000->PyData.strOk o=true->aG (F [.aD w,.str o] M) λr M'=>∃l,r=.d (j8 l)/\fg 4 l/\((o == "heap")=false->B5 l)/\WA M' w (T+20)/\Fr w M M'
theorem J_{G:bc}{ar:Nat}(hD:dO (G ar)):uU (ah G 7 (uK ar)):=by
 intro M w T o hw hT ho;rw[bo];show dB G (uK ar) [some (.aD w),some (.str o),none,none,none,none,none] M _ _ _ _;nofun;refine(hD M w T 6 hw ∅ ∅ ∅).imp ?_;rintro r M1 ⟨a,rfl,a0,a1,Bx,f1⟩;nofun;refine(hD M1 w _ (10 ^ 9-1000) Bx ∅ ∅ ∅).imp ?_;rintro r M2 ⟨b,rfl,b0,b1,uA,f2⟩;nofun;refine⟨s3,?_⟩;nofun;have hA:(M2++[MO.lst [.int 0,.int a,.int b]])[M2.length]?=some (.lst [.int 0,.int a,.int b]):=aA;have wm:WA (M2++[MO.lst [.int 0,.int a,.int b]]) w (T+1+1):=uA.app;have f3:Fr w M (M2++[MO.lst [.int 0,.int a,.int b]]):=(f1.trans f2).app;have Ou:M.length<=M2.length:=(f1.trans f2).1;have Dw:=uA.lt;generalize M2++[MO.lst [.int 0,.int a,.int b]]=M3 at hA wm f3⊢;refine(hD M3 w _ 5 wm ∅ ∅ ∅).imp ?_;rintro r M4 ⟨c,rfl,c0,c1,j7,f4⟩;nofun;refine⟨⟨∅,∅⟩,?_⟩;have Xb:=f4.get hA ∅
 obtain⟨d,hd,s,rfl,Sx,Ze⟩:∃d,[D.int 0,.int a,.int b][(c / 2).toNat]?=some d/\∃s:Int,d=.int s/\0<=s/\s<1000000000:=ma (ds:=[D.int 0,.int a,.int b]) (k:=3) (λd hd=>by
  simp only[bS,gm,fh]at hd;rcases hd with rfl | rfl | rfl
  ·exact⟨0,rfl,∅,∅⟩
  ·exact⟨a,rfl,∅,∅⟩
  ·exact⟨b,rfl,∅,∅⟩) ∅ ∅ rfl
 nofun;rw[bh Xb (i:=c / 2) ∅ hd];nofun;refine⟨s0,?_⟩;nofun;have f5:=f3.trans f4;refine(hD (M4++[MO.lst []]) w _ 4 j7.app ∅ ∅ ∅).imp ?_;rintro r M5 ⟨g,rfl,g0,g1,mY,f6⟩;nofun;have Xc:0<=(if g<s then g else s)/\(if g<s then g else s)<=3/\(if g<s then g else s)<=s:=by split<;>omega
 generalize (if g<s then g else s)=mn at Xc;refine⟨⟨∅,∅⟩,?_⟩;have F8:M.length<=M4.length:=f5.1;have NW:=j7.lt;refine j6 (n:=mn.toNat) (λi ρ M'=>∃o2 x6 ls,∃ps:List (Int×Str),ρ=[some (.aD w),some (.str o),o2,some (.int s),some (.aD M4.length),some (.int ls),x6]/\M'[M4.length]?=some (.lst (ps.map pD))/\ps.length<=i/\(∀p∈ps,cP p.2/\0<=p.1/\p.1<s/\ls<=p.1)/\(ps.Pairwise λp q=>p.1<q.1)/\ls<=s/\WA M' w (T+5+2*i)/\Fr w M M'/\((o == "heap")=false->ls=s-(i:Int)/\ps.length=i/\ps.map (·.1)=sJ ls s)) ⟨_,_,_,[],rfl,f6.get aA ∅,aL _,(by intro p h;cases h),.nil,tm _,mY.mono ∅,f5.app.trans f6,λ_=>⟨∅,rfl,(B4 (tm _)).symm⟩⟩ ?_ ?_
 ·rintro i ρ M6 hi ⟨o2,x6,ls,ps,rfl,hn,nj,Oy,PM,Xd,mh,f7,ht⟩;nofun;rw[aI ho E7];nofun;refine(hD M6 w _ 3 mh ∅ ∅ ∅).imp ?_;rintro r M7 ⟨h,rfl,h0,h1,F9,f8⟩;have Sy:=f8.get hn ∅;nofun;have QV:0<=(if (o == "heap")=true then (1:Int) else 0)/\(if (o == "heap")=true then (1:Int) else 0)<=1:=by split<;>omega
  refine⟨.inr ⟨∅,∅⟩,?_⟩;have hmul:0<=(if (o == "heap")=true then (1:Int) else 0)*h:=Int.mul_nonneg QV.1 h0;have hz:(o == "heap")=false->(if (o == "heap")=true then (1:Int) else 0)*h=0:=λq=>by rw[q];simp
  generalize (if (o == "heap")=true then (1:Int) else 0)*h=mm at hmul hz;nofun;by_cases Sz:0<=ls-1-mm
  ·rw[e5 Sz];nofun;refine⟨dX Sy,?_⟩;nofun;refine(hD M7 w _ 4 F9 ∅ ∅ ∅).imp ?_;rintro r M8 ⟨q,rfl,q0,q1,N4,f9⟩;have Ug:=f9.get Sy ∅;obtain⟨ch,yy,Fg⟩:=JN (M:=M8) q0 q1;nofun;rw[yy];nofun;refine⟨s2,?_⟩;nofun;rw[sh (x:=.tup [.int (ls-1-mm),.str ch]) (i:=0) Ug (bE (by rw[aE];omega)) ∅ ∅];refine⟨_,_,_,(ls-1-mm,ch)::ps,rfl,?_,by simp;omega,?_,?_,∅,(N4.set ∅).mono ∅,((f7.trans f8).trans f9).set ∅,λq=>?_⟩
   ·rw[bH Ug];simp[pD]
   ·intro p hp;rcases bS.mp hp with rfl | hp
    ·exact⟨Fg,Sz,by show ls-1-mm<s;omega,tm _⟩
    ·obtain⟨a1,a2,a3,a4⟩:=Oy p hp;exact⟨a1,a2,a3,∅⟩
   ·refine CF.mpr ⟨λp hp=>?_,PM⟩;obtain⟨a1,a2,a3,a4⟩:=Oy p hp;show ls-1-mm<p.1;omega
   ·have z:=hz q;obtain⟨t1,t2,t3⟩:=ht q;refine⟨∅,by simp[t2],?_⟩;show(ls-1-mm)::ps.map (·.1)=_;rw[t3,z,Int.sub_zero,yo (a:=ls-1) ∅,show ls-1+1=ls by omega]
  ·rw[eh Sz]
   refine⟨_,_,_,ps,rfl,Sy,∅,λp hp=>?_,PM,∅,F9.mono ∅,f7.trans f8,λq=>by
    have z:=hz q;obtain⟨t1,t2,t3⟩:=ht q;omega⟩
   obtain⟨a1,a2,a3,a4⟩:=Oy p hp;exact⟨a1,a2,a3,∅⟩
 ·rintro ρ M6 ⟨o2,x6,ls,ps,rfl,hn,nj,Oy,PM,Xd,mh,f7,ht⟩;nofun;rw[bR hn];nofun;refine⟨s2,(s,ps),rfl,⟨⟨Sx,by show s<=_;omega⟩,by show ps.length<=4;omega,λp hp=>?_,PM⟩,λq=>?_,mh.mono ∅,f7⟩
  ·obtain⟨a1,a2,a3,a4⟩:=Oy p hp;exact⟨a1,a2,a3⟩
  ·obtain⟨t1,t2,t3⟩:=ht q;show ps.map (·.1)=sJ (s-(ps.length:Int)) s;rw[t3,t2,<- t1]
theorem gG{α:Type}{P:α->Prop}{acc:List α}{x:α}(h:∀y∈acc,P y)(hx:P x):∀y∈acc++[x],P y:=by
 intro y hy;rcases fX.mp hy with z | z
 ·exact h y z
 ·have:y=x:=by simpa using z
  subst this;exact hx
theorem sL{ds:List D}{M:ag}{i:Nat}:itemAt M i (.items ds)=some ds[i]?:=rfl
def Tl(f:Fm)(s:Sd):Prop:=∀r,r<f.ro.length->((cz f r).2.2 == "heap")=false->B5 (load s r)
def Ka(f:Fm)(ls:List (Int×List (Int×Str))):Prop:=∀(j:Nat) l,ls[j]?=some l->((cz f j).2.2 == "heap")=false->B5 l
theorem Ka.snoc{f:Fm}{ls:List (Int×List (Int×Str))}{l:Int×List (Int×Str)}(h:Ka f ls) (k:((cz f ls.length).2.2 == "heap")=false->B5 l):Ka f (ls++[l]):=λj x e q=>by
 rcases Nat.lt_or_ge j ls.length with z | z
 ·rw[jq z]at e;exact h j x e q
 ·rw[qw z]at e
  have hj:j=ls.length:=by
   have:=(bV.mp e).1;simp only[kW,yV]at this;omega
  subst hj;simp at e;subst e;exact k q
theorem Ka.tl{f:Fm}{st:List Int}{ls:List (Int×List (Int×Str))}(h:Ka f ls)(hl:ls.length=f.ro.length):Tl f ⟨st,ls⟩:=λr hr q=>h r _ (by
 show ls[r]?=some (ls.getD r (0,[]));rw[kR,cE ∅];rfl) q
theorem Oz:B5 (0,[]):=rfl
def qi(F:Fn):Prop:=∀(M:ag)(ns:List Int)(f:Fm),ns.length<=63->cH f->aG (F [.ls (ns.map D.int),eE f] M) λr M'=>∃s,r=.d (eS s)/\cQ f 4 s/\Tl f s/\Ex M M'
theorem Fh{G:bc}{c_ ar mz:Nat}(hW:nU (G c_))(hD:dO (G ar))(hL:uU (G mz)):qi (ah G 5 (pZ c_ ar mz)):=by
 intro M ns f ko hf;have h8:=hf.l8;have h4:=hf.l4;rw[bo];show dB G (pZ c_ ar mz) [some (.ls (ns.map D.int)),some (eE f),none,none,none] M _ _ _ _;nofun;refine(hW M ns 5 ∅ ∅ ko).imp ?_;rintro r M1 ⟨rfl,JM,Bx,f1⟩;nofun;refine jf (ds:=f.ro.map uM) (λi M' acc=>M1=M'/\∃ls:List (Int×List (Int×Str)),acc=ls.map j8/\ls.length=i/\(∀l∈ls,fg 4 l)/\Ka f ls) (by decide) (λi M' acc _ _=>sL) ⟨rfl,[],rfl,rfl,(by intro l h;cases h),(by intro j l h;simp at h)⟩ ?_ ?_ rfl
 ·rintro i M' acc d hd ⟨rfl,ls,rfl,qv,Gg,yJ⟩;have hi:=(bV.mp hd).1;rw[aE]at hi;refine⟨bE (by rw[aE];omega),?_⟩;nofun;refine⟨s0,s2,rfl,ls++[(0,[])],by simp[j8],by simp[qv],gG Gg ⟨⟨tm _,by show(0:Int)<=_;omega⟩,by simp,(by intro p h;cases h),.nil⟩,yJ.snoc λ_=>Oz⟩
 rintro M' acc ⟨rfl,ls,rfl,qv,Gg,yJ⟩;rw[aE]at qv;nofun;refine jf (ds:=f.ru.map sS) (λi M' acc=>M1=M'/\∃st:List Int,acc=st.map D.int/\st.length=i/\∀l∈st,0<=l/\l<100) (by decide) (λi M' acc _ _=>sL) ⟨rfl,[],rfl,rfl,(by intro l h;cases h)⟩ ?_ ?_ rfl
 ·rintro i M' acc d hd ⟨rfl,st,rfl,xZ,Gh⟩;have hi:=(bV.mp hd).1;rw[aE]at hi;refine⟨bE (by rw[aE];omega),?_⟩;rw[dz,cE hi]at hd;cases hd;have hr:=(hf.ru i _ (cE hi)).1;nofun;refine⟨rfl,st++[f.ru[i].1],by simp,by simp[xZ],gG Gh hr⟩
 rintro M' acc ⟨rfl,st,rfl,xZ,Gh⟩;rw[aE]at xZ;nofun;refine(hD M1 M.length 0 3 Bx ∅ ∅ ∅).imp ?_;rintro r M2 ⟨a,rfl,a0,a1,uA,f2⟩;nofun;by_cases ha:0<a
 ·rw[e5 ha];nofun;refine jf (ds:=f.ro.map uM) (λi M' acc=>(WA M' M.length (1+20*i)/\Fr M.length M M')/\∃ls:List (Int×List (Int×Str)),acc=ls.map j8/\ls.length=i/\(∀l∈ls,fg 4 l)/\Ka f ls) (by decide) (λi M' acc _ _=>sL) ⟨⟨uA.mono ∅,f1.trans f2⟩,[],rfl,rfl,(by intro l h;cases h),(by intro j l h;simp at h)⟩ ?_ ?_ rfl
  ·rintro i M' acc d hd ⟨⟨wm,f3⟩,ls,rfl,qv,Gg,yJ⟩;have hi:=(bV.mp hd).1;rw[aE]at hi;refine⟨bE (by rw[aE];omega),?_⟩;rw[(hf.rd hi).1]at hd;cases hd;nofun;refine(hL M' M.length _ _ wm ∅ (hf.rd hi).2.ok).imp ?_;rintro r M4 ⟨l,rfl,hl,ht,j7,f4⟩;nofun;refine⟨⟨j7.mono ∅,f3.trans f4⟩,ls++[l],by simp,by simp[qv],gG Gg hl,yJ.snoc (by rw[qv];exact ht)⟩
  rintro M3 acc ⟨⟨wm,f3⟩,ls,rfl,qv,Gg,yJ⟩;rw[aE]at qv wm;nofun;refine(hD M3 M.length _ 4 wm ∅ ∅ ∅).imp ?_;rintro r M4 ⟨b,rfl,b0,b1,j7,f4⟩;nofun
  cases hb:(b==(0:Int))with
  | true =>
   nofun;refine jf (ds:=f.ru.map sS) (λi M' acc=>(WA M' M.length (300+i)/\Fr M.length M M')/\∃st:List Int,acc=st.map D.int/\st.length=i/\∀l∈st,0<=l/\l<100) (by decide) (λi M' acc _ _=>sL) ⟨⟨j7.mono ∅,f3.trans f4⟩,[],rfl,rfl,(by intro l h;cases h)⟩ ?_ ?_ rfl
   ·rintro i M' acc d hd ⟨⟨mY,f5⟩,st,rfl,xZ,Gh⟩;have hi:=(bV.mp hd).1;rw[aE]at hi;refine⟨bE (by rw[aE];omega),?_⟩;nofun;refine(hD M' M.length _ 100 mY ∅ ∅ ∅).imp ?_;rintro r M6 ⟨c,rfl,c0,c1,mh,f6⟩;nofun;refine⟨⟨mh.mono ∅,f5.trans f6⟩,st++[c],by simp,by simp[xZ],gG Gh ⟨c0,c1⟩⟩
   rintro M5 acc ⟨⟨mY,f5⟩,st,rfl,xZ,Gh⟩;rw[aE]at xZ;nofun;exact⟨s2,⟨st,ls⟩,rfl,⟨xZ,Gh,qv,Gg⟩,yJ.tl qv,f5⟩
  | false =>
   nofun;exact⟨s2,⟨st,ls⟩,rfl,⟨xZ,Gh,qv,Gg⟩,yJ.tl qv,f3.trans f4⟩
 ·rw[eh ha];nofun;exact⟨s2,⟨st,ls⟩,rfl,⟨xZ,Gh,qv,Gg⟩,yJ.tl qv,f1.trans f2⟩
abbrev PN:=List (Int×List (Int×Str))
structure LA (M0 M:ag) (n7 n9:Nat) (as b:Nat->Nat) (st:List Int) (ld:PN):Prop where
 h7:M[n7]?=some (.lst (st.map D.int))
 h9:M[n9]?=some (.lst ((List.range ld.length).map λi=>D.aD (as i)))
 hl:∀i l,ld[i]?=some l->M[as i]?=some (.lst [.int l.1,.aD (b i)])/\M[b i]?=some (.lst (l.2.map pD))
 d1:∀i j,i<ld.length->j<ld.length->as i≠b j
 d2:∀i j,i<ld.length->j<ld.length->i≠j->as i≠as j/\b i≠b j
 d3:∀i,i<ld.length->as i≠n7/\b i≠n7/\as i≠n9/\b i≠n9
 ge:∀i,i<ld.length->M0.length<=as i/\M0.length<=b i
 fr:Ex M0 M
section
variable {M0 M:ag} {n7 n9:Nat} {as b:Nat->Nat} {st:List Int} {ld:PN}
theorem LA.Uh(h:LA M0 M n7 n9 as b st ld){r:Nat}(hr:r<ld.length):cW (.d (.aD n9)) (.d (.int r)) M=.ok (.d (.aD (as r))) M :=
 sg h.h9 (by rw[dz,yN hr];rfl)
theorem LA.OA(h:LA M0 M n7 n9 as b st ld){i:Int}(h0:0<=i)(hr:i.toNat<ld.length):cW (.d (.aD n9)) (.d (.int i)) M=.ok (.d (.aD (as i.toNat))) M:=by
 have:=h.Uh hr;rw[Int.toNat_of_nonneg h0]at this;exact this
theorem LA.ex{M':ag}(h:LA M0 M n7 n9 as b st ld)(f:Ex M M'):LA M0 M' n7 n9 as b st ld :=
 ⟨Ex.get f h.h7,Ex.get f h.h9,λi l hi=>⟨Ex.get f (h.hl i l hi).1,Ex.get f (h.hl i l hi).2⟩,h.d1,h.d2,h.d3,h.ge,Ex.trans h.fr f⟩
theorem LA.app(h:LA M0 M n7 n9 as b st ld){r:Nat}{l:Int×List (Int×Str)}(hr:ld[r]?=some l)(c:Str):LA M0 ((M.set (b r) (.lst (l.2.map pD++[pD (l.1,c)]))).set (as r) (.lst [.int (l.1+1),.aD (b r)])) n7 n9 as b st (ld.set r (more l c)):=by
 have lu:=(bV.mp hr).1;obtain⟨g1,g2⟩:=h.hl r l hr;obtain⟨a7,b7,a9,b9⟩:=h.d3 r lu;have KJ:=h.d1 r r lu lu;obtain⟨ga,gb⟩:=h.ge r lu;have aY:(ld.set r (more l c)).length=ld.length:=jt;refine⟨bw (bw h.h7 (cK b7)) (cK a7),?_,λi l' hi=>?_,by rw[aY];exact h.d1,by rw[aY];exact h.d2,by rw[aY];exact h.d3,by rw[aY];exact h.ge,Fr.set (Fr.set h.fr gb) ga⟩
 ·rw[aY];exact bw (bw h.h9 (cK b9)) (cK a9)
 ·have KY:i<ld.length:=by rw[<- aY];exact(bV.mp hi).1
  by_cases e:i=r
  ·subst e;rw[kS lu]at hi;cases hi;refine⟨bH (bw g1 KJ),?_⟩;refine bw (u:=.lst [.int (l.1+1),.aD (b i)]) (m:=as i) ?_ (cK KJ);rw[bH g2];unfold more;rw[qG];rfl
  ·rw[jr (cK e)]at hi;obtain⟨k1,k2⟩:=h.hl i l' hi;obtain⟨x1,x2⟩:=h.d2 i r KY lu e;exact⟨bw (bw k1 (h.d1 i r KY lu)) x1,bw (bw k2 x2) (cK (h.d1 r i lu KY))⟩
theorem LA.cut(h:LA M0 M n7 n9 as b st ld){r:Nat}{l:Int×List (Int×Str)}(hr:ld[r]?=some l)(k:Int):LA M0 ((M++[MO.lst ((less l k).2.map pD)]).set (as r) (.lst [.int l.1,.aD M.length])) n7 n9 as (λi=>if i=r then M.length else b i) st (ld.set r (less l k)):=by
 have lu:=(bV.mp hr).1;obtain⟨g1,g2⟩:=h.hl r l hr;obtain⟨a7,b7,a9,b9⟩:=h.d3 r lu;obtain⟨ga,gb⟩:=h.ge r lu;have aY:(ld.set r (less l k)).length=ld.length:=jt;have aM:∀i,i<ld.length->as i<M.length:=λi hi=>aV (h.hl i _ (cE hi)).1;have bM:∀i,i<ld.length->b i<M.length:=λi hi=>aV (h.hl i _ (cE hi)).2;have m7:=aV h.h7;have m9:=aV h.h9;have Zf:=aM r lu;refine⟨bw (aW h.h7) (cK a7),?_,λi l' hi=>?_,?_,?_,?_,?_,Fr.set (Fr.app h.fr) ga⟩
 ·rw[aY];exact bw (aW h.h9) (cK a9)
 ·have KY:i<ld.length:=by rw[<- aY];exact(bV.mp hi).1
  by_cases e:i=r
  ·subst e;rw[kS lu]at hi;cases hi;simp only[dD];exact⟨bH (aW g1),bw aA ∅⟩
  ·rw[jr (cK e)]at hi;obtain⟨k1,k2⟩:=h.hl i l' hi;obtain⟨x1,x2⟩:=h.d2 i r KY lu e;simp only[a8 e];exact⟨bw (aW k1) x1,bw (aW k2) (cK (h.d1 r i lu KY))⟩
 ·rw[aY];intro i j hi hj;have:=aM i hi;split
  ·omega
  ·exact h.d1 i j hi hj
 ·rw[aY];intro i j hi hj JG;have:=bM i hi;have:=bM j hj;obtain⟨x1,x2⟩:=h.d2 i j hi hj JG;refine⟨x1,?_⟩;split<;>split<;>first | omega | exact x2
 ·rw[aY];intro i hi;obtain⟨x1,x2,x3,x4⟩:=h.d3 i hi;refine⟨x1,?_,x3,?_⟩
  ·split
   ·omega
   ·exact x2
  ·split
   ·omega
   ·exact x4
 ·rw[aY];intro i hi;obtain⟨x1,x2⟩:=h.ge i hi;refine⟨x1,?_⟩;have:=h.fr.1;split
  ·exact this
  ·exact x2
end
def OB:List S:=[.dI [10,11] .seq [4] [.expr (.me .append (.sub (.sub 9 10) (.kn 1)) [(.tup [(.sub (.sub 9 10) (.kn 0)),11])]),.put (.sub 9 10) (.kn 0) (.bin .add (.sub (.sub 9 10) (.kn 0)) (.kn 1))],.asg [12] (.bi .tuple1 [(.comp .seq [9] [1] none (.tup [(.ks 1 0),(.bi .tuple1 [(.ks 1 1)])]) [none,none])]),.ret (.tup [(.tup [(.bi .tuple1 [7]),12]),(.ite (.val (.cmp .qq 5 (.bf .aJ))) (.bf .aJ) (.tup [6,5]))])]
theorem mH{G:bc}{M0 M:ag}{n7 n9 m N:Nat}{as b:Nat->Nat}{o0 o1 o2 o3 o8 wz OC Ui:Option D}{sd:List (Int×Str)}{w:Option Str}{st:List Int}{ld:PN}{nx:En->ag->Prop}{rt:W->ag->Prop}{bk ct:En->ag->Prop}(hA:LA M0 M n7 n9 as b st ld)(KI:∀l∈ld,fg N l)(hN:N<=900)(mj:∀p∈sd,cP p.2/\0<=p.1/\p.1.toNat<ld.length)(h3:sd.length<=3)(h8:ld.length<=8)(q:∀M',Ex M0 M'->rt (.d (.tup [.tup [.tup (st.map D.int),.tup ((dY ld sd).map j8)],PK m w])) M'):dB G OB [o0,o1,o2,o3,some (.tup (sd.map pD)),some (JV w),some (.int m),some (.aD n7),o8,some (.aD n9),wz,OC,Ui] M nx rt bk ct:=by
 nofun;refine je (ds:=sd.map pD) (λi ρ M'=>∃wz OC,ρ=[o0,o1,o2,o3,some (.tup (sd.map pD)),some (JV w),some (.int m),some (.aD n7),o8,some (.aD n9),wz,OC,Ui]/\LA M0 M' n7 n9 as b st (dY ld (sd.take i))) ⟨_,_,rfl,hA⟩ ?_ ?_
 ·rintro i ρ M' dd ku ⟨wz,OC,rfl,hA⟩;rw[dz]at ku
  cases e:sd[i]? with
  | none=>rw[e]at ku;cases ku
  | some p =>
   rw[e]at ku;cases ku;obtain⟨p1,p2,p3⟩:=mj p (gQ e);have hi:=(bV.mp e).1;have yI:p.1.toNat<(dY ld (sd.take i)).length:=by rw[jk];exact p3
   have bt:=kN (n:=i) KI (λq hq=>⟨(mj q (wU hq)).1,(mj q (wU hq)).2.2⟩) (by rw[iI];omega:(sd.take i).length<=i);have tQ:=fz (d:=((0:Int),([]:List (Int×Str)))) bt yI;have PL:=tQ.n;have uV:(dY ld (sd.take i))[p.1.toNat]?=some ((dY ld (sd.take i)).getD p.1.toNat (0,[])):=by rw[kR,cE yI];rfl
   have Xe:dY ld (sd.take (i+1))=(dY ld (sd.take i)).set p.1.toNat (more ((dY ld (sd.take i)).getD p.1.toNat (0,[])) p.2):=by rw[dN e,og]
   rw[Xe];generalize (dY ld (sd.take i)).getD p.1.toNat (0,[])=l at tQ PL uV⊢;obtain⟨g1,g2⟩:=hA.hl _ _ uV;have KJ:=hA.d1 _ _ yI yI;nofun;rw[hA.OA p2 yI];nofun;rw[bh g1 (i:=1) (x:=.aD (b p.1.toNat)) (by decide) rfl];nofun;refine⟨dX g2,?_⟩;nofun;rw[hA.OA p2 yI];nofun;rw[bh g1 (i:=0) (x:=.int l.1) (by decide) rfl];nofun;refine⟨s2,?_⟩;nofun;rw[fy g2 (bE (by rw[aE];omega))];nofun;have k9:(M'.set (b p.1.toNat) (.lst (l.2.map pD++[.tup [.int l.1,.str p.2]])))[n9]?=some (.lst ((List.range (dY ld (sd.take i)).length).map λi=>D.aD (as i))):=bw hA.h9 (cK (hA.d3 _ yI).2.2.2);have ka:(M'.set (b p.1.toNat) (.lst (l.2.map pD++[.tup [.int l.1,.str p.2]])))[as p.1.toNat]?=some (.lst [.int l.1,.aD (b p.1.toNat)]):=bw g1 KJ;have Uj:cW (.d (.aD n9)) (.d (.int p.1)) (M'.set (b p.1.toNat) (.lst (l.2.map pD++[.tup [.int l.1,.str p.2]])))=.ok (.d (.aD (as p.1.toNat))) (M'.set (b p.1.toNat) (.lst (l.2.map pD++[.tup [.int l.1,.str p.2]]))):=bh k9 p2 (by rw[dz,yN yI];rfl);rw[Uj];nofun;rw[bh ka (i:=0) (x:=.int l.1) (by decide) rfl];nofun;rw[Uj];nofun;rw[l5 (i:=0) ka (by decide) (show 0<2 by decide)];exact⟨_,_,rfl,hA.app uV p.2⟩
 ·rintro ρ M' ⟨wz,OC,rfl,hA⟩;rw[aE,oo]at hA;have bt:=kN (n:=3) KI (λq hq=>⟨(mj q hq).1,(mj q hq).2.2⟩) h3;have aY:(dY ld sd).length=ld.length:=jk;nofun;rw[fT hA.h9];refine jf (ds:=(List.range (dY ld sd).length).map λi=>D.aD (as i)) (λi M2 acc=>M'=M2/\acc=((dY ld sd).take i).map j8) (by decide) (λi M2 acc h hi=>sk hA.h9 M2 (by rw[<- h.1];exact Ex.refl _) i hi) ⟨rfl,rfl⟩ ?_ ?_ (si hA.h9)
  ·rintro i M2 acc dd ku ⟨rfl,rfl⟩;have hi:=(bV.mp ku).1;rw[aE,GL]at hi;rw[dz,yN hi]at ku;cases ku;obtain⟨g1,g2⟩:=hA.hl i _ (cE hi);refine⟨bE (by rw[aE,iI];omega),?_⟩;nofun;rw[bh g1 (i:=0) (x:=.int (dY ld sd)[i].1) (by decide) rfl];nofun;rw[bh g1 (i:=1) (x:=.aD (b i)) (by decide) rfl];nofun;rw[bR g2];nofun;refine⟨s2,rfl,?_⟩;rw[dN (cE hi),qG];rfl
  rintro M2 acc ⟨rfl,rfl⟩;rw[aE,GL,oo];nofun;rw[bR hA.h7]
  cases w with
  | none =>
   nofun;exact⟨s2,s2,q M' hA.fr⟩
  | some x =>
   nofun;refine⟨s2,s2,s2,q M' hA.fr⟩
theorem Kb{G:bc}{eO my:Nat}(hA:mG (G eO))(Ss:nZ (G my)):ib (ah G 13 (uJ eO my)):=by
 intro M f N s d x hf hs hN hd hx;have hm:=hd.mc hf;have B2:=wD hf hs hd hx;have h8:=hf.l8;have qv:=hs.ll;obtain⟨a,sd,w⟩:=x;rw[bo];show dB G (uJ eO my) [some (eE f),some (eS s),some (dc d),none,none,none,none,none,none,none,none,none,none] M _ _ _ _;nofun;refine(hA M f N s d hf hs hN hd).imp ?_;rintro r M1 ⟨f1,e⟩;rw[hx]at e;subst e;nofun;refine(Ss M1 f d hf hd).imp ?_;rintro r M2 ⟨rfl,rfl⟩;nofun;have e6:mc f d<(s.st.map D.int).length:=by rw[aE,hs.ls];exact hm
 rw[kJ aA e6];nofun;have g7:((M1++[MO.lst (s.st.map D.int)]).set M1.length (.lst ((s.st.map D.int).set (mc f d) (.int a))))[M1.length]?=some (.lst ((s.st.set (mc f d) a).map D.int)):=by rw[bH aA,List.map_set]
 have DF:Ex M ((M1++[MO.lst (s.st.map D.int)]).set M1.length (.lst ((s.st.map D.int).set (mc f d) (.int a)))):=Fr.set (Fr.app f1) f1.1;have JM:=f1.1;have Xf:=aV g7;generalize (M1++[MO.lst (s.st.map D.int)]).set M1.length (.lst ((s.st.map D.int).set (mc f d) (.int a)))=M5 at g7 DF Xf⊢;have Zg:=DF.1
 have mj:∀(ld:PN),ld.length=f.ro.length->∀p∈sd,cP p.2/\0<=p.1/\p.1.toNat<ld.length:=λld hl p hp=>by
  obtain⟨a,b,r,c,_⟩:=B2.sd p hp;exact⟨a,b,by rw[hl];exact(bV.mp c).1⟩
 have yJ:KU f d (a,sd,w)=PK (mc f d) w:=by cases w<;>rfl
 rw[yJ];refine jf (ds:=s.ld.map j8) (λi M' acc=>acc=(List.range i).map (λj=>D.aD (M5.length+2*j+1))/\M'.length=M5.length+2*i/\(∀j l,j<i->s.ld[j]?=some l->M'[M5.length+2*j+1]?=some (.lst [.int l.1,.aD (M5.length+2*j)])/\M'[M5.length+2*j]?=some (.lst (l.2.map pD)))/\Ex M5 M') (by decide) (λi M' acc _ _=>sL) ⟨rfl,rfl,(by intro j l h;omega),Ex.refl _⟩ ?_ ?_ rfl
 ·rintro i M' acc dd ku ⟨rfl,hl,hj,fr⟩;have hi:=(bV.mp ku).1;rw[aE]at hi;rw[dz,cE hi]at ku;cases ku;refine⟨bE (by rw[aE,GL];omega),?_⟩;nofun;refine⟨s2,?_⟩;nofun;have Dt:(M'++[MO.lst (s.ld[i].2.map pD)]).length=M5.length+2*i+1:=by rw[fB,hl];rfl
  refine⟨?_,by rw[fB,Dt];simp;omega,?_,Fr.app (Fr.app fr)⟩
  ·rw[List.range_succ,qG,Dt];rfl
  ·intro j l Zh SA;by_cases e:j=i
   ·subst e;rw[cE hi]at SA;cases SA;rw[<- Dt,<- hl];exact⟨aA,aW aA⟩
   ·obtain⟨k1,k2⟩:=hj j l ∅ SA;exact⟨aW (aW k1),aW (aW k2)⟩
 rintro M6 acc ⟨rfl,hl,hj,fr⟩;rw[aE]at hl hj⊢
 have Gi:LA M (M6++[MO.lst ((List.range s.ld.length).map λj=>D.aD (M5.length+2*j+1))]) M1.length M6.length (λj=>M5.length+2*j+1) (λj=>M5.length+2*j) (s.st.set (mc f d) a) s.ld:=by
  refine⟨aW (Ex.get fr g7),aA,λi l hi=>?_,λi j hi hj=>?_,λi j hi hj JG=>⟨?_,?_⟩,λi hi=>⟨?_,?_,?_,?_⟩,λi hi=>⟨?_,?_⟩,Fr.app (Ex.trans DF fr)⟩
  ·obtain⟨k1,k2⟩:=hj i l (bV.mp hi).1 hi;exact⟨aW k1,aW k2⟩
  all_goals (try dsimp only)
  all_goals omega
 cases d with
 | own m =>
  nofun;rw[aI bq aB,ym];exact mH Gi hs.ld hN (mj _ qv) B2.l ∅ λM2 f2=>⟨f2,rfl⟩
 | dP m c' =>
  nofun;rw[aI aX aB,uQ];exact mH Gi hs.ld hN (mj _ qv) B2.l ∅ λM2 f2=>⟨f2,rfl⟩
 | bI r k =>
  have hr:r<s.ld.length:=by rw[hs.ll];exact hd
  have tQ:=fz (d:=((0:Int),([]:List (Int×Str)))) hs.ld hr;have PL:=tQ.n;have uV:s.ld[r]?=some (s.ld.getD r (0,[])):=by rw[kR,cE hr];rfl
  have hle:mB s.ld (.bI r k)=s.ld.set r (less (s.ld.getD r (0,[])) k):=rfl;nofun;rw[aI aB aB,mZ];generalize M6++[MO.lst ((List.range s.ld.length).map λj=>D.aD (M5.length+2*j+1))]=M7 at Gi⊢;obtain⟨as,b,Gi⟩:∃as b,LA M M7 M1.length M6.length as b (s.st.set (mc f (.bI r k)) a) s.ld:=⟨_,_,Gi⟩;nofun;rw[Gi.Uh hr];obtain⟨g1,g2⟩:=Gi.hl _ _ uV;nofun;rw[bh g1 (i:=1) (x:=.aD (b r)) (by decide) rfl];nofun;rw[fT g2];refine sH (ps:=(s.ld.getD r (0,[])).2) (k:=k) (it:=.at (b r)) (sk g2) ∅ ?_ ?_ (λM8 f8=>?_) (si g2)
  ·intro M' p Q _ h;exact h
  ·show 1<3;decide
  have Uk:=Gi.ex f8;have Xg:=(Uk.hl _ _ uV).1;nofun;rw[l5 (i:=1) (aW Xg) (by decide) (show 1<2 by decide)];have Xh:=Uk.cut uV k;refine mH Xh (mF (d:=.bI r k) hs.ld λr' k' e=>by cases e;exact hr) hN (mj _ (by rw[jt];exact qv)) B2.l (by rw[jt];omega) λM2 f2=>⟨f2,rfl⟩
def gP:Dn->PyData
 | .own m=>.tuple [.str "own",.int m]
 | .dP m c=>.tuple [.str "hear",.int m,.str c]
 | .bI r k=>.tuple [.str "come",.int r,.int k]
theorem Gj{M:ag}{n:Nat}{d:Dn}(h:1<=n):cM M n (dc d)=some (gP d):=by
 obtain⟨n,rfl⟩:∃m,n=m+1:=⟨n-1,∅⟩;cases d<;>(show cM M (n+1) (.tup _)=_;try simp only[cM,bC,tf];try rfl)
theorem B6{M:ag}{n:Nat}(h:1<=n):∀ds:List Dn,bC M n (ds.map dc)=some (ds.map gP)
 | []=>by rw[mP];unfold bC;rfl
 | d::ds=>by
  rw[fC];unfold bC;rw[Gj h,B6 h ds];rfl
def Cr:Dn->Prop
 | .dP _ c=>PyData.strOk c=true
 | _=>True
theorem da.s{f:Fm}{d:Dn}(h:da f d):Cr d:=by
 cases d with
 | own m=>trivial
 | dP m c=>exact h.2.ok.1
 | bI r k=>trivial
theorem B7{d:Dn}(h:Cr d):PyData.canLay0 (gP d)=true/\PyData.depth (gP d)<=1:=by
 cases d with
 | own m =>
  unfold gP;simp only[wX,sW,sV,qz,wW,bq,wZ,sY,sX,qC,wY];decide
 | dP m c =>
  have h:PyData.strOk c=true:=h;unfold gP;simp only[wX,sW,sV,qz,wW,aX,h,wZ,sY,sX,qC,wY];decide
 | bI r k =>
  unfold gP;simp only[wX,sW,sV,qz,wW,aB,wZ,sY,sX,qC,wY];decide
theorem wL:∀{ds:List Dn},(∀d∈ds,Cr d)->PyData.canLayAll0 (ds.map gP)=true/\PyData.depthAll (ds.map gP)<=1
 | [],_=>by rw[mP,sV,sX];decide
 | d::ds,h=>by
  obtain⟨a1,a2⟩:=B7 (h d eg);obtain⟨b1,b2⟩:=wL (ds:=ds) λx hx=>h x (dC _ hx);rw[fC,sW,sY,a1,b1];exact⟨rfl,∅⟩
theorem Kc{ds:List Dn}(h:∀d∈ds,Cr d):SeqAt.shaped (.list (ds.map gP))=true:=by
 obtain⟨a,b⟩:=wL h;unfold SeqAt.shaped;rw[PyData.canLay0.eq_5,a,PyData.depth.eq_1,yY];exact e5 ∅
theorem B8{M:ag}{n:Nat}{ds:List Dn}(hM:M[n]?=some (.lst (ds.map dc)))(h:∀d∈ds,Cr d):bg .ne (.d (.aD n)) (.lv []) M=.ok (!ds.isEmpty) M:=by
 have h1:iH M (.d (.aD n))=some (.list (ds.map gP)):=by
  show cM M 30 (.aD n)=_;unfold cM
  try simp only[hM]
  rw[B6 (by decide) ds];rfl
 have h2:iH M (.lv [])=some (.list []):=by show(bC M 30 []).map _=_;unfold bC;rfl
 have h3:=Kc h;have h4:SeqAt.shaped (.list [])=true:=⋯;unfold bg
 try simp only[h1,h2,h3,h4,jv,dD,PyData.eqv.eq_7]
 cases ds with
 | nil=>rw[mP,CI];rfl
 | cons d ds =>
  have:PyData.eqvAll (gP d::ds.map gP) []=false:=by simp only[PyData.eqvAll]
  rw[fC,this];rfl
noncomputable def Ul:D->Option D
 | .tup [a,b,_]=>some (.tup [.str "come",a,b])
 | _=>none
def cm(f:Fm)(s:Sd):List Dn:=(fl f s f.ro.length).map λx=>.bI x.1 x.2.1
theorem B9:∀l:List (Nat×Int×Str),(l.map tD).filterMap Ul=(l.map λx=>Dn.bI x.1 x.2.1).map dc
 | []=>rfl
 | x::l=>by
  have:=B9 l;rw[fC,j_,this];rfl
theorem B_{f:Fm}{N:Nat}{s:Sd}(hs:cQ f N s){d:Dn}(h:d∈cm f s):da f d/\cn f s d=true:=by
 obtain⟨⟨r,k,c⟩,hx,rfl⟩:=kg.mp h;obtain⟨h1,h2⟩:=(qh _).mp hx;refine⟨h1,?_⟩;rw[wH hs h1];exact e5 (kg.mpr ⟨_,h2,rfl⟩)
theorem Ca{f:Fm}{N:Nat}{s:Sd}(hf:cH f)(hs:cQ f N s)(hN:N<=900):(cm f s).length<=7200:=by
 unfold cm;rw[aE];exact cJ (uT hs _ (aL _)) (Nat.mul_le_mul hN hf.l8)
theorem Fi{G:bc}{M:ag}{n:Nat}{f:Fm}{s:Sd}(hM:M[n]?=some (.lst ((fl f s f.ro.length).map tD)))(hl:(fl f s f.ro.length).length<=7200){P:W->ag->Prop}(q:∀M',Ex M M'->P (.lv ((cm f s).map dc)) M'){k:Nat}(hk:k=((fl f s f.ro.length).map tD).length):aG (ba (λτ M=>bB G none τ M) (λτ M=>(ev G (.tup [(.bf (.str "come")),(.fK 1),(.fK 2)]) τ M).bind own) (.at n) [1,2,3] k 0 [none,none,none,none] M []) P:=by
 refine wg (ds:=(fl f s f.ro.length).map tD) Ul (by decide) (sk hM) (by rw[aE];exact cJ hl (by decide)) ?_ ?_ hk
 ·intro i M' d hd fr;rw[dz]at hd
  cases e:(fl f s f.ro.length)[i]? with
  | none=>rw[e]at hd;cases hd
  | some p =>
   rw[e]at hd;cases hd;nofun;exact⟨s3,rfl,fr⟩
 ·intro M' fr;rw[B9];exact q M' fr
theorem WA.ex{M M':ag}{w:Nat}{T:Int}(h:WA M w T)(f:Ex M M'):WA M' w T:=h.fr f (by have:=h.lt;omega)
theorem Gk{ds:List Dn}{i:Int}(h0:0<=i)(h1:i<ds.length):∃d,d∈ds/\(ds.map dc)[i.toNat]?=some (dc d):=by
 have hl:i.toNat<ds.length:=∅;exact⟨ds[i.toNat],qE hl,by rw[dz,cE hl];rfl⟩
def uW(F:Fn):Prop:=∀(M:ag)(w:Nat)(T:Int)(f:Fm)(N:Nat)(s:Sd),WA M w T->T<10000->cH f->cQ f N s->N<=900->aG (F [.aD w,eE f,eS s] M) λr M'=>∃d,r=.d (dc d)/\da f d/\cn f s d=true/\WA M' w (T+4)/\Fr w M M'
theorem Kd{G:bc}{dv eO ar:Nat}(hC:kO (G dv))(hA:mG (G eO))(hD:dO (G ar)):uW (ah G 7 (uL dv eO ar)):=by
  intro M w T f N s hw hT hf hs hN;have h4:=hf.l4;have h1:=hf.l1;have Dw:=hw.lt;rw[bo];show dB G (uL dv eO ar) [some (.aD w),some (eE f),some (eS s),none,none,none,none] M _ _ _ _;nofun;refine(hC M f N s hf hs hN).imp ?_;rintro o M1 ⟨n,rfl,KR,hn,f1⟩;nofun;rw[fT hn];refine Fi hn (by have:=Ca hf hs hN;unfold cm at this;rw[aE]at this;exact this) (λM2 f2=>?_) (si hn);have Fj:=Ex.trans f1 f2;nofun;refine⟨s0,?_⟩;nofun;refine⟨⟨by rw[aE];omega,by rw[aE];omega⟩,?_⟩;have yB:(M2++[MO.lst ((cm f s).map dc)])[M2.length]?=some (.lst ((cm f s).map dc)):=aA;have Dt:=Fj.1;have OD:Fr w M (M2++[MO.lst ((cm f s).map dc)]):=Fr.app ((Fr.refl w M).back Fj (.inl (aL _)));have uA:WA (M2++[MO.lst ((cm f s).map dc)]) w T:=(hw.ex Fj).app;have aY:(M2++[MO.lst ((cm f s).map dc)]).length=M2.length+1:=by simp
  generalize (M2++[MO.lst ((cm f s).map dc)])=M3 at yB OD uA aY⊢;generalize M2.length=n3 at yB Dt aY⊢;refine j6 (n:=((f.ru.map sS).length:Int).toNat) (λi ρ M'=>∃o5,∃ms:List Dn,ρ=[some (.aD w),some (eE f),some (eS s),some (.aD n3),some (.aD M3.length),o5,none]/\M'[n3]?=some (.lst ((cm f s).map dc))/\M'[M3.length]?=some (.lst (ms.map dc))/\ms.length<=i/\(∀d∈ms,da f d/\cn f s d=true)/\WA M' w T/\Fr w M M') ⟨_,[],rfl,aW yB,aA,aL _,(by intro d h;cases h),uA.app,OD.app⟩ ?_ ?_
  · rintro i ρ M' hi ⟨o5,ms,rfl,hc,hm,Ou,KZ,N_,Fb⟩;have hi:i<f.ru.length:=by rw[aE]at hi;omega
    have bt:da f (.own i):=hi;rw[show(0:Int)+(i:Int)=((i:Nat):Int) by omega];nofun;refine⟨s2,?_⟩;nofun;refine(hA M' f N s (.own i) hf hs hN bt).imp ?_;rintro r M4 ⟨f4,rfl⟩;have Um:=Ex.get f4 hc;have F8:=Ex.get f4 hm;have kK:=Fb.back f4 (.inl Fb.1);have j7:=N_.ex f4;nofun;rw[BW]
    cases OE:(rp f s (.own i)).isSome with
    | true =>
      nofun;refine⟨dX F8,?_⟩;nofun;refine⟨s2,?_⟩;nofun;rw[fy F8 (bE (by rw[aE];omega))];refine⟨_,ms++[.own i],rfl,bw Um ∅,?_,by simp;omega,gG (x:=Dn.own i) KZ ⟨bt,OE⟩,j7.set (by have:=OD.1;omega),kK.set (by have:=OD.1;omega)⟩;rw[bH F8,qG];rfl
    | false =>
      exact⟨_,ms,rfl,Um,F8,∅,KZ,j7,kK⟩
  rintro ρ M' ⟨o5,ms,rfl,hc,hm,Ou,KZ,N_,Fb⟩;have Ou:ms.length<=4:=by rw[aE]at Ou;omega
  have Pr:=Ca hf hs hN;have Zi:=OD.1;nofun;refine(hD M' w T 8 N_ ∅ ∅ ∅).imp ?_;rintro r M5 ⟨wy,rfl,y0,y1,mY,f5⟩;have SD:=f5.get hc ∅;have SE:=f5.get hm ∅;have oN:=Fb.trans f5;nofun;refine⟨s0,?_⟩;nofun;rw[B8 SD λd hd=>(B_ hs hd).1.s]
  have second : dB G [.iff (.di [(.val (.cmp .ne (.fK 4) (.lst []))), (.val (.cmp .lt (.fK 6) (.bf (.int 7))))]) [.ret (.sub (.fK 4) (.call ar [(.fK 0), (.bi .len [(.fK 4)])]))] [], .ret (.tup [(.bf (.str "hear")), (.call ar [(.fK 0), (.bi .len [(.sub (.fK 1) (.bf (.int 0)))])]), (.sub (.bf (.str "abcz")) (.call ar [(.fK 0), (.bf (.int 4))]))])]
      [some (.aD w),some (eE f),some (eS s),some (.aD n3),some (.aD M3.length),o5,some (.int wy)] M5 (λρ M'=>∃d,W.d D.aJ=.d (dc d)/\da f d/\cn f s d=true/\WA M' w (T+4)/\Fr w M M') (λr M'=>∃d,r=.d (dc d)/\da f d/\cn f s d=true/\WA M' w (T+4)/\Fr w M M') (λ_ _=>False) (λ_ _=>False):=by
    have Gm : dB G [.ret (.tup [(.bf (.str "hear")), (.call ar [(.fK 0), (.bi .len [(.sub (.fK 1) (.bf (.int 0)))])]), (.sub (.bf (.str "abcz")) (.call ar [(.fK 0), (.bf (.int 4))]))])]
        [some (.aD w),some (eE f),some (eS s),some (.aD n3),some (.aD M3.length),o5,some (.int wy)] M5 (λρ M'=>∃d,W.d D.aJ=.d (dc d)/\da f d/\cn f s d=true/\WA M' w (T+4)/\Fr w M M') (λr M'=>∃d,r=.d (dc d)/\da f d/\cn f s d=true/\WA M' w (T+4)/\Fr w M M') (λ_ _=>False) (λ_ _=>False):=by
      nofun;refine(hD M5 w _ ((f.ru.map sS).length:Int) mY ∅ (by rw[aE];omega) (by rw[aE];omega)).imp ?_;rintro r M6 ⟨i,rfl,i0,i1,mh,f6⟩;nofun;refine(hD M6 w _ 4 mh ∅ ∅ ∅).imp ?_;rintro r M7 ⟨j,rfl,j0,j1,F9,f7⟩;obtain⟨c,hc,Fg⟩:=JN (M:=M7) j0 j1;nofun;rw[hc];nofun;rw[aE]at i1;refine⟨s3,.dP i.toNat c,?_,⟨∅,Fg⟩,?_,F9.mono ∅,(oN.trans f6).trans f7⟩
      · show W.d (.tup [.str "hear",.int i,.str c])=.d (.tup [.str "hear",.int (i.toNat:Nat),.str c]);rw[Int.toNat_of_nonneg i0]
      · obtain⟨x,hx⟩:=p0 (mv:=nY f i.toNat) (s:=s.st.getD i.toNat 0) Fg;show(an (nY f i.toNat) (s.st.getD i.toNat 0) c).isSome=true;rw[hx];rfl
    nofun;refine⟨s0,?_⟩;nofun;rw[B8 SE λd hd=>(KZ d hd).1.s]
    cases ms with
    | nil=>exact Gm
    | cons d0 ms =>
      nofun;by_cases hy:wy<7
      · rw[e5 hy];nofun;rw[fS SE];nofun;refine(hD M5 w _ (((d0::ms).map dc).length:Int) mY ∅ (by rw[aE,kW];omega) (by rw[aE];omega)).imp ?_;rintro r M6 ⟨i,rfl,i0,i1,mh,f6⟩;rw[aE]at i1;obtain⟨d,hd,hg⟩:=Gk i0 i1;nofun;rw[bh (f6.get SE ∅) i0 hg];exact⟨d,rfl,(KZ d hd).1,(KZ d hd).2,mh.mono ∅,oN.trans f6⟩
      · rw[eh hy];exact Gm
  cases Uo:(cm f s).isEmpty with
  | true=>exact second
  | false =>
    nofun;by_cases hy:wy<4
    · rw[e5 hy];nofun;rw[fS SD];nofun
      have MB:0<(cm f s).length:=by
        cases hz:cm f s with
        | nil=>rw[hz]at Uo;cases Uo
        | cons a b=>simp
      refine(hD M5 w _ (((cm f s).map dc).length:Int) mY ∅ (by rw[aE];omega) (by rw[aE];omega)).imp ?_;rintro r M6 ⟨i,rfl,i0,i1,mh,f6⟩;rw[aE]at i1;obtain⟨d,hd,hg⟩:=Gk i0 i1;nofun;rw[bh (f6.get SD ∅) i0 hg];exact⟨d,rfl,(B_ hs hd).1,(B_ hs hd).2,mh.mono ∅,oN.trans f6⟩
    · rw[eh hy];exact second
theorem Fl:PyData.strOk "keep" = true:=⋯
theorem wM:PyData.strOk "note" = true:=⋯
inductive sU (f:Fm) (M:ag):D->Prop
 | aJ:sU f M .aJ
 | int (i:Int):sU f M (.int i)
 | str (x:Str):sU f M (.str x)
 | emp:sU f M (.tup [])
 | aD (n:Nat) (ds:List D) (h:M[n]?=some (.lst ds)):sU f M (.aD n)
 | keep (x:D):sU f M (.tup [.str "keep",x])
 | SF:sU f M (.tup [.str "own",.bl true])
 | Gn:sU f M (.tup [.str "own",.int f.ru.length])
 | aa:sU f M (.tup [.str "hear",.int 0,.str "aa"])
 | off (k:Int):sU f M (.tup [.str "come",.int f.ro.length,.int k])
 | note (x y:D):sU f M (.tup [.str "note",x,y])
def uX(F:Fn):Prop:=∀(M:ag),aG (F [.bl true] M) λr M'=>M=M'/\r=.d (.bl false)
theorem Ke{G:bc}:uX (ah G 1 mr):=by
 intro M;rw[bo];show dB G mr [some (.bl true)] M _ _ _ _;nofun;exact⟨rfl,rfl⟩
def uY(F:Fn):Prop:=∀(M:ag)(n:Nat),(aG (F [.int n,.int n] M) λr M'=>M=M'/\r=.d (.bl false))/\aG (F [.bl true,.int n] M) λr M'=>M=M'/\r=.d (.bl false)
theorem Kg{G:bc}{cf:Nat}(hW:mE (G cf))(hT:uX (G cf)):uY (ah G 2 (jS cf)):=by
 intro M n;constructor
 ·rw[bo];show dB G (jS cf) [some (.int n),some (.int n)] M _ _ _ _;nofun;refine(hW M n).imp ?_;rintro r M1 ⟨rfl,rfl⟩;nofun;rw[eh (show ¬(n:Int)<n by omega)];exact⟨rfl,rfl⟩
 ·rw[bo];show dB G (jS cf) [some (.bl true),some (.int n)] M _ _ _ _;nofun;refine(hT M).imp ?_;rintro r M1 ⟨rfl,rfl⟩;nofun;exact⟨rfl,rfl⟩
def Cb(F:Fn):Prop:=∀(M:ag),aG (F [.str "aa"] M) λr M'=>M=M'/\r=.d (.bl false)
theorem OF{G:bc}:Cb (ah G 1 sy):=by
 intro M;rw[bo];show dB G sy [some (.str "aa")] M _ _ _ _;nofun;exact⟨rfl,rfl⟩
theorem Xi{M:ag}:bg .eJ (.d (.int 0)) (.d (.tup [.int 2,.int 3])) M=.ok true M:=uP (ks:=[2,3])
def uZ(F:Fn):Prop:=∀(M:ag)(f:Fm)(t:D),cH f->sU f M t->aG (F [eE f,t] M) λr M'=>M=M'/\r=.d (.bl false)
theorem Kh{G:bc}{d_ ji cf:Nat}(hB:qe (G d_))(hN:uY (G d_))(hS:Cb (G ji)):uZ (ah G 2 (mw d_ ji cf)):=by
 intro M f t hf ht;rw[bo];show dB G (mw d_ ji cf) [some (eE f),some t] M _ _ _ _
 cases ht with
 | aJ=>nofun;exact⟨rfl,rfl⟩
 | int i=>nofun;exact⟨rfl,rfl⟩
 | str x=>nofun;exact⟨rfl,rfl⟩
 | aD n ds h =>
  nofun;rw[show kA (.qr .tuple) [.d (.aD n)] M=.ok (.d (.bl false)) M by unfold kA;simp only[DV,h];rfl];nofun;exact⟨rfl,rfl⟩
 | emp =>
  nofun;refine⟨s2,?_⟩;nofun;rw[show(([]:List D).length:Int)=0 from rfl,Xi];nofun;exact⟨rfl,rfl⟩
 | keep x =>
  nofun;refine⟨s2,?_⟩;nofun;rw[show(([D.str "keep",x].length:Nat):Int)=2 from rfl,PH];nofun;rw[aI Fl bq,show(("keep" : Str) == "own")=false by decide +kernel];nofun;exact⟨rfl,rfl⟩
 | SF =>
  nofun;refine⟨s2,?_⟩;nofun;rw[show(([D.str "own",D.bl true].length:Nat):Int)=2 from rfl,PH];nofun;rw[aI bq bq,BQ];nofun;exact(hN M _).2
 | Gn =>
  nofun;refine⟨s2,?_⟩;nofun;rw[show(([D.str "own",D.int f.ru.length].length:Nat):Int)=2 from rfl,PH];nofun;rw[aI bq bq,BQ];nofun;rw[show(((f.ru.map sS).length:Nat):Int)=(f.ru.length:Int) by rw[aE]];exact(hN M _).1
 | aa =>
  nofun;refine⟨s2,?_⟩;nofun;rw[show(([D.str "hear",D.int 0,D.str "aa"].length:Nat):Int)=3 from rfl,Oe];nofun;rw[aI aX aX,BR];nofun;refine(hB M 0 _ (by rw[aE];exact hf.l1)).imp ?_;rintro r M1 ⟨rfl,rfl⟩;nofun;exact hS M
 | off k =>
  nofun;refine⟨s2,?_⟩;nofun;rw[show(([D.str "come",D.int f.ro.length,D.int k].length:Nat):Int)=3 from rfl,Oe];nofun;rw[aI aB aX,BS];nofun;rw[aI aB aB,mZ];nofun;rw[show(((f.ro.map uM).length:Nat):Int)=(f.ro.length:Int) by rw[aE]];refine(hN M _).1.imp ?_;rintro r M1 ⟨rfl,rfl⟩;nofun;exact⟨rfl,rfl⟩
 | note x y =>
  nofun;refine⟨s2,?_⟩;nofun;rw[show(([D.str "note",x,y].length:Nat):Int)=3 from rfl,Oe];nofun;rw[aI wM aX,show(("note" : Str) == "hear")=false by decide +kernel];nofun;rw[aI wM aB,show(("note" : Str) == "come")=false by decide +kernel];nofun;exact⟨rfl,rfl⟩
def Fo(F:Fn):Prop:=∀(M:ag)(f:Fm)(s:Sd)(t:D),cH f->sU f M t->aG (F [eE f,eS s,t] M) λr M'=>M=M'/\r=.d (.bl false)
theorem SG{G:bc}{fV kAnswer sA:Nat}(hP:uZ (G fV)):Fo (ah G 3 (BH fV kAnswer sA)):=by
 intro M f s t hf ht;rw[bo];show dB G (BH fV kAnswer sA) [some (eE f),some (eS s),some t] M _ _ _ _;nofun;refine(hP M f t hf ht).imp ?_;rintro r M1 ⟨rfl,rfl⟩;nofun;exact⟨rfl,rfl⟩
noncomputable def mI(mJ jm:Nat)(C:Addr):List S:=[.iff (.neg (.val (.call mJ [0,1,2]))) [.Cp C "number" (.kn 0)] [],.ret (.call jm [0,1,2])]
theorem OG{G:bc}{mJ jm:Nat}{C:Addr}(hC:BZ (G mJ))(hO:ib (G jm)):ib (ah G 3 (mI mJ jm C)):=by
 intro M f N s d x hf hs hN hd hx;rw[bo];show dB G (mI mJ jm C) [some (eE f),some (eS s),some (dc d)] M _ _ _ _;nofun;refine(hC M f N s d hf hs hN hd).imp ?_;rintro r M1 ⟨f1,e⟩;have OE:cn f s d=true:=by unfold cn;rw[hx];rfl
 rw[OE]at e;subst e;nofun;exact(hO M1 f N s d x hf hs hN hd hx).imp λr M2 ⟨f2,e⟩=>⟨Ex.trans f1 f2,e⟩
def Not(f:Fm)(s:Sd)(M:ag)(t:D):Prop:=sU f M t\/∃d,t=dc d/\da f d/\rp f s d=none
def SH(C:Addr)(k:Int):vG:=⟨C,[("number",.int k)]⟩
theorem Fp{F:Fn}(hC:BZ F)(hN:Fo F){M:ag}{f:Fm}{N:Nat}{s:Sd}{t:D}(hf:cH f)(hs:cQ f N s)(h9:N<=900)(ht:Not f s M t):∃M1,F [eE f,eS s,t] M=.ok (.d (.bl false)) M1/\Ex M M1:=by
 rcases ht with ht | ⟨d,rfl,hd,hr⟩
 ·obtain⟨a,M1,e,e1,e2⟩:=pN (hN M f s t hf ht);subst e1 e2;exact⟨_,e,Ex.refl _⟩
 ·obtain⟨a,M1,e,e1,e2⟩:=pN (hC M f N s d hf hs h9 hd);have OE:cn f s d=false:=by unfold cn;rw[hr];rfl
  rw[OE]at e2;subst e2;exact⟨M1,e,e1⟩
theorem Ki{o:bJ W}{e:vG->ag->Prop}(h:@aG ⟨e⟩ W o λ_ _=>False):∃x M,o=.err x M/\e x M:=by
 cases o with
 | ok a M=>rw[@aN ⟨e⟩]at h;exact h.elim
 | err x M=>rw[@eB ⟨e⟩]at h;exact⟨x,M,rfl,h⟩
 | af=>rw[@aw ⟨e⟩]at h;exact h.elim
def SI(C:Addr)(F:Fn):Prop:=∀(M:ag)(f:Fm)(N:Nat)(s:Sd)(t:D),cH f->cQ f N s->N<=900->Not f s M t->∃M',F [eE f,eS s,t] M=.err (SH C 0) M'/\Ex M M'
theorem OH{G:bc}{mJ jm:Nat}{C:Addr}(hC:BZ (G mJ))(hN:Fo (G mJ)):SI C (ah G 3 (mI mJ jm C)):=by
 intro M f N s t hf hs h9 ht;obtain⟨M1,e,f1⟩:=Fp hC hN hf hs h9 ht
 have h:@aG ⟨λx M'=>x=SH C 0/\Ex M M'⟩ W (ah G 3 (mI mJ jm C) [eE f,eS s,t] M) λ_ _=>False:=by
  letI:Er:=⟨λx M'=>x=SH C 0/\Ex M M'⟩
  rw[bo];show dB G (mI mJ jm C) [some (eE f),some (eS s),some t] M _ _ _ _;nofun;rw[e,aN];nofun;exact⟨rfl,f1⟩
 obtain⟨x,M',e1,rfl,e3⟩:=Ki h;exact⟨M',e1,e3⟩
def ToldF(F:Fn):Prop:=∀(M:ag)(f:Fm)(N:Nat)(s:Sd)(t:D),cH f->cQ f N s->N<=900 ->
 (∀d x,t=dc d->da f d->rp f s d=some x->aG (F [eE f,eS s,t] M) λr M'=>Ex M M'/\r=.d (.tup [eS (Gf f s d x),KU f d x]))/\(Not f s M t->aG (F [eE f,eS s,t] M) λr M'=>Ex M M'/\r=.d (.tup [.str "no",.int 0]))
theorem Fq{F:Fn}{C:Addr}(hO:ib F)(hX:SI C F):ToldF (nS C "number" F):=by
 intro M f N s t hf hs h9;constructor
 ·rintro d x rfl hd hx;obtain⟨r,M1,e,f1,rfl⟩:=pN (hO M f N s d x hf hs h9 hd hx);exact Bd (a:=.d _) (M:=M1) (by unfold nS;rw[e];rfl) ⟨f1,rfl⟩
 ·intro ht;obtain⟨M1,e,f1⟩:=hX M f N s t hf hs h9 ht;exact Bd (a:=.d _) (M:=M1) (by unfold nS;rw[e];exact aS rfl) ⟨f1,rfl⟩
theorem Ft(i:Int):PyData.strOk (Str.ofString (toString i))=true:=by
 unfold PyData.strOk;rw[Array.all_eq_true'];intro c hc;refine e5 ?_;refine Classical.byContradiction λh=>?_;exact int_text_free' c ⟨∅,∅⟩ i (by simpa using hc)
theorem u9{i:Int}(h0:0<=i)(h1:i<10 ^ 12):Sm 14 0 (.int i):=by
 have hn:i.natAbs<10 ^ 12:=∅
 have SJ:i.natAbs.log2<1920:=by
  by_cases h0:i.natAbs=0
  ·rw[h0];decide
  ·exact(Nat.log2_lt h0).mpr (eZ hn (by decide))
 refine⟨.int i,λM n _=>by cases n<;>(unfold cM;rfl),qz i,?_,tj (qC i),?_⟩
 ·rw[PyData.showable.eq_4];exact e5 SJ
 ·rw[PyData.shown.eq_3];refine⟨?_,Ft i⟩;have:=int_text_length_le10 (a:=i) (k:=12) (by decide) hn;rw[PySem.ofString_length];omega
theorem Kj{c:Str}(h:cP c):Sm 14 0 (.str c):=by
 rcases h with rfl | rfl | rfl | rfl<;>exact Sm.str ⋯ ⟨⋯,⋯⟩
theorem OI{c:Str}(h:E5 (some c)):Sm 14 0 (.str c):=by
 rcases h c rfl with rfl | rfl | rfl | rfl | rfl<;>exact Sm.str ⋯ ⟨⋯,⋯⟩
theorem qj{P:D->Prop}{a b:D}(ha:P a)(hb:P b):∀d∈[a,b],P d:=λd hd=>by
 simp only[bS,gm,fh]at hd;rcases hd with rfl | rfl<;>assumption
theorem OJ{N:Nat}{l:Int×List (Int×Str)}(h:fg N l)(hN:N<=200):Sm 14813 3 (j8 l):=by
 have hs:=h.s;have hn:=h.n
 have h1:Sm 7403 2 (.tup (l.2.map pD)):=by
  refine(Sm.tup (b:=35) (h:=1) (k:=200) (λd hd=>?_) (by rw[aE];omega)).mono (by decide) (by decide);obtain⟨p,hp,rfl⟩:=kg.mp hd;obtain⟨k1,k2,k3⟩:=h.p p hp;exact(Sm.tup (b:=14) (h:=0) (k:=2) (qj (u9 k2 ∅) (Kj k1)) (aL 2)).mono (by decide) (by decide)
 exact(Sm.tup (b:=7403) (h:=2) (k:=2) (qj ((u9 hs.1 ∅).mono (by decide) (by decide)) h1) (aL 2)).mono (by decide) (by decide)
theorem Gp{f:Fm}(hf:cH f){N:Nat}{s:Sd}(h:cQ f N s)(hN:N<=200):Sm 237053 5 (eS s):=by
 have h4:=hf.l4;have h8:=hf.l8
 have h1:Sm 19 1 (.tup (s.st.map D.int)):=by
  refine Sm.tup (b:=2) (h:=0) (k:=4) (λd hd=>?_) (by rw[aE,h.ls];exact h4);obtain⟨i,hi,rfl⟩:=kg.mp hd;exact Sm.int (h.st i hi).1 (h.st i hi).2
 have h2:Sm 118523 4 (.tup (s.ld.map j8)):=by
  refine Sm.tup (b:=14813) (h:=3) (k:=8) (λd hd=>?_) (by rw[aE,h.ll];exact h8);obtain⟨l,hl,rfl⟩:=kg.mp hd;exact OJ (h.ld l hl) hN
 exact Sm.tup (b:=118523) (h:=4) (k:=2) (qj (h1.mono (by decide) (by decide)) h2) (aL 2)
end Ev
end
section
namespace d5
open Ev PySem
abbrev Fu:=List D->ag->bJ W
abbrev c0(l:List Fu):=l
def n0:List Str:=["thing"]
def b0:List S:=mr
def f0:Fu:=ah (cw (c0 [])) 1 b0
abbrev c1(l:List Fu):=c0 (f0::l)
def n1:List Str:=["thing","bound"]
def b1:List S:=jS 0
def f1:Fu:=ah (cw (c1 [])) 2 b1
abbrev c2(l:List Fu):=c1 (f1::l)
def n2:List Str:=["thing"]
def b2:List S:=sy
def f2:Fu:=ah (cw (c2 [])) 1 b2
abbrev c3(l:List Fu):=c2 (f2::l)
def n3:List Str:=["form","m","state","cause","move"]
def b3:List S:=pS
def f3:Fu:=ah (cw (c3 [])) 5 b3
abbrev c4(l:List Fu):=c3 (f3::l)
def n4:List Str:=["stand","road"]
def b4:List S:=uF
def f4:Fu:=ah (cw (c4 [])) 2 b4
abbrev c5(l:List Fu):=c4 (f4::l)
def n5:List Str:=["form","thing"]
def b5:List S:=mw 1 2 0
def f5:Fu:=ah (cw (c5 [])) 2 b5
abbrev c6(l:List Fu):=c5 (f5::l)
def n6:List Str:=["form","deed"]
def b6:List S:=BG
def f6:Fu:=ah (cw (c6 [])) 2 b6
abbrev c7(l:List Fu):=c6 (f6::l)
def n7:List Str:=["form","stand","road","waiting"]
def b7:List S:=JU 4
def f7:Fu:=ah (cw (c7 [])) 4 b7
abbrev c8(l:List Fu):=c7 (f7::l)
def n8:List Str:=["form","stand","thing"]
def b8:List S:=BH 5 3 7
def f8:Fu:=ah (cw (c8 [])) 3 b8
abbrev c9(l:List Fu):=c8 (f8::l)
def n9:List Str:=["stand","deed"]
def b9:List S:=uG 4
def f9:Fu:=ah (cw (c9 [])) 2 b9
abbrev PQ(l:List Fu):=c9 (f9::l)
def Xj:List Str:=["letters","k"]
def Up:List S:=BI
def Uq:Fu:=ah (cw (PQ [])) 2 Up
abbrev PR(l:List Fu):=PQ (Uq::l)
def Xk:List Str:=["letters","sign"]
def Ur:List S:=BJ
def Us:Fu:=ah (cw (PR [])) 2 Ur
abbrev PU(l:List Fu):=PR (Us::l)
noncomputable def Xl:List Str:=["form","stand","deed","m","reply","states","roads","road","sign","told"]
def Ut:List S:=BK 6 3 9 10 11
def Fj:Fu:=ah (cw (PU [])) 10 Ut
abbrev PV(l:List Fu):=PU (Fj::l)
def Xm:List Str:=["form","stand","thing"]
noncomputable def Uu:List S:=[.iff (.neg (.val (.call 8 [0,1,2]))) [.Cp 63 "number" (.kn 0)] [],.ret (.call 12 [0,1,2])]
def PX:Fu:=ah (cw (PV [])) 3 Uu
abbrev OK(l:List Fu):=PV (PX::l)
def Xn:List Str:=["_law_script","_law_k","_law_cell"]
def Uv:List S:=Br
def Uw:Fu:=ah (cw (OK [])) 3 Uv
abbrev PY(l:List Fu):=OK (Uw::l)
noncomputable def Xo:List Str:=["_law_well_here","_law_many","_law_turn","_law_left","_law_here","_law_mixed"]
def Ux:List S:=wj
def Xp:Fu:=ah (cw (PY [])) 6 Ux
abbrev PZ(l:List Fu):=PY (Xp::l)
noncomputable def Xq:List Str:=["_law_well_here","_law_machines","_law_roads_here","_law_many","_law_k","_law_one","_law_other"]
def Uy:List S:=uu 15
def Xr:Fu:=ah (cw (PZ [])) 7 Uy
abbrev P0(l:List Fu):=PZ (Xr::l)
noncomputable def Xs:List Str:=["_law_well_here","_law_some","_law_many","_law_k","_law_state"]
def Uz:List S:=pT 15
def Xu:Fu:=ah (cw (P0 [])) 5 Uz
abbrev P1(l:List Fu):=P0 (Xu::l)
noncomputable def Xv:List Str:=["_law_well_here","_law_ways","_law_sends_here","_law_k","_law_road"]
def UA:List S:=uw 15
def Xw:Fu:=ah (cw (P1 [])) 5 UA
abbrev P2(l:List Fu):=P1 (Xw::l)
noncomputable def Xx:List Str:=["_law_well_here","_law_some","_law_ways","_law_words","_law_moves_here","_law_state","_law_cause","_law_after","_law_sends_here","_law_word","_law_at"]
def UB:List S:=ux 15 18
def Xy:Fu:=ah (cw (P2 [])) 11 UB
abbrev P4(l:List Fu):=P2 (Xy::l)
noncomputable def Xz:List Str:=["_law_script","_law_well_here","_law_machines","_law_roads_here","_law_rules","_law_m","_law_some","_law_ways","_law_start"]
def UC:List S:=wk 14 15 16 17 19
def XA:Fu:=ah (cw (P4 [])) 9 UC
abbrev P5(l:List Fu):=P4 (XA::l)
noncomputable def XB:List Str:=["_law_form_here","_law_m","_law_state","_law_cause","_law_told_here"]
def UD:List S:=pU
def XC:Fu:=ah (cw (P5 [])) 5 UD
abbrev P6(l:List Fu):=P5 (XC::l)
noncomputable def XD:List Str:=["_law_form_here","_law_stand_here","_law_found","_law_road","_law_waiting"]
def UE:List S:=pY
def XE:Fu:=ah (cw (P6 [])) 5 UE
abbrev P7(l:List Fu):=P6 (XE::l)
noncomputable def XF:List Str:=["_law_form_here","_law_stand_here","_law_deed","_law_m","_law_road","_law_number","_law_sign"]
def UG:List S:=uH 21 22
def XG:Fu:=ah (cw (P7 [])) 7 UG
abbrev P8(l:List Fu):=P7 (XG::l)
def XH:List Str:=["_law_form_here","_law_deed"]
def UH:List S:=uI
def XI:Fu:=ah (cw (P8 [])) 2 UH
abbrev P9(l:List Fu):=P8 (XI::l)
noncomputable def XJ:List Str:=["_law_form_here","_law_stand_here","_law_deed","_law_after","_law_sends_here","_law_word","_law_m","_law_states_here","_law_load_here","_law_loads","_law_road","_law_sign","_law_roads_here"]
def UI:List S:=uJ 23 24
def XM:Fu:=ah (cw (P9 [])) 13 UI
abbrev P_(l:List Fu):=P9 (XM::l)
noncomputable def XN:List Str:=["_law_well_here","_law_order","_law_some","_law_sent","_law_waiting","_law_least","_law_k"]
def UJ:List S:=uK 15
def XQ:Fu:=ah (cw (P_ [])) 7 UJ
abbrev Qa(l:List Fu):=P_ (XQ::l)
noncomputable def XR:List Str:=["_law_script","_law_form_here","_law_well_here","_law_loads","_law_states_here"]
def UK:List S:=pZ 14 15 26
def XS:Fu:=ah (cw (Qa [])) 5 UK
abbrev Qb(l:List Fu):=Qa (XS::l)
noncomputable def XT:List Str:=["_law_well_here","_law_form_here","_law_stand_here","_law_some","_law_owns","_law_m","_law_way"]
def UL:List S:=uL 22 23 15
def XU:Fu:=ah (cw (Qb [])) 7 UL
abbrev SM(l:List Fu):=Qb (XU::l)
def UM:Fu:=nS 63 "number" PX
abbrev Qc(l:List Fu):=SM (UM::l)
noncomputable def XW:List Str:=["_law_well_here","_law_form_here","_law_stand_here","_law_road","_law_number","_law_m","_law_some"]
def OL:List S:=[.asg [3] (.call 15 [0,(.bin .add (.bi .len [(.ks 1 1)]) (.kn 1))]),.asg [4] (.bin .sub (.call 15 [0,(.kn 7)]) (.kn 1)),.iff (.val (.cmp .lt 3 (.bi .len [(.ks 1 1)]))) [.asg [4] (.bin .sub (.bin .sub (.sub (.sub (.ks 2 1) 3) (.kn 0)) (.kn 1)) (.call 15 [0,(.kn 5)]))] [],.asg [5] (.call 15 [0,(.bi .len [(.ks 1 0)])]),.asg [6] (.lst [(.tup [(.bf (.str "own")),5]),(.tup [(.bf (.str "come")),3,4]),(.tup [(.bf (.str "own")),(.bi .len [(.ks 1 0)])]),(.tup [(.bf (.str "hear")),(.kn 0),(.bf (.str "aa"))]),(.tup [(.bf (.str "hear")),5,(.bf (.str "b"))])]),.ret (.sub 6 (.call 15 [0,(.kn 5)]))]
def XX:Fu:=ah (cw (Qc [])) 7 OL
abbrev Qd(l:List Fu):=Qc (XX::l)
noncomputable def XY:List Str:=["_law_form_here","_law_stand_here","_law_deed"]
def Qe:List S:=[.iff (.f_ [(.di [(.val (.cmp .eq (.ks 2 0) (.bf (.str "hear")))),(.val (.cmp .eq (.ks 2 2) (.bf (.str "aa"))))]),(.val (.cmp .eq 2 (.tup [(.bf (.str "own")),(.bi .len [(.ks 0 0)])])))]) [.ret (.bf (.bl false))] [],.iff (.di [(.val (.cmp .eq (.ks 2 0) (.bf (.str "come")))),(.val (.cmp .eq (.ks 2 1) (.bi .len [(.ks 0 1)])))]) [.ret (.bf (.bl false))] [],.ret (.cmp .fc (.call 23 [0,1,2]) (.bf .aJ))]
def XZ:Fu:=ah (cw (Qd [])) 3 Qe
abbrev Qf(l:List Fu):=Qd (XZ::l)
noncomputable def X2:List Str:=["_law_form_here","_law_stand_here","_law_deed","_law_kept","_law_told_here","_law_due"]
noncomputable def Qg:List S:=[.asg [3] (.bi .iT [1]),.asg [4] (.call 29 [0,1,2]),.asg [5] (.tup [(.bf (.str "no")),(.kn 0)]),.iff (.val (.call 31 [0,1,2])) [.asg [5] (.call 25 [0,1,2])] [],.ret (.di [(.cmp .eq (.bi .iT [4]) (.bi .iT [5])),(.cmp .eq (.bi .iT [1]) 3)])]
def X3:Fu:=ah (cw (Qf [])) 6 Qg
abbrev Qh(l:List Fu):=Qf (X3::l)
noncomputable def X4:List Str:=["_law_script","_law_form_here","_law_stand_here","_law_k","_law_well_here","_law_deed","_law_thing"]
def Qi:List S:=[.asg [1] (.call 20 [0]),.asg [2] (.call 27 [0,1]),.dI [3] .fJ [(.bin .add (.kn 6) (.call 15 [(.call 14 [0,(.kn 6)]),(.kn 14)]))] [.asg [4] (.call 14 [0,(.bin .add (.kn 7) 3)]),.asg [5] (.call 28 [4,1,2]),.iff (.neg (.val (.call 32 [1,2,(.call 30 [4,1,2])]))) [.ret (.bf (.bl false))] [],.iff (.neg (.val (.call 32 [1,2,5]))) [.ret (.bf (.bl false))] [],.asg [2] (.sub (.call 25 [1,2,5]) (.kn 0))],.dI [6] .seq [(.tup [(.bf .aJ),(.kn 7),(.tup []),(.lst [(.tup [(.bf (.str "own")),(.kn 0)])]),(.tup [(.bf (.str "keep")),(.kn 0)]),(.bf (.str "own")),(.tup [(.bf (.str "own")),(.bf (.bl true))])])] [.iff (.val (.cmp .ne (.call 29 [1,2,6]) (.tup [(.bf (.str "no")),(.kn 0)]))) [.ret (.bf (.bl false))] []],.ret (.bf (.bl true))]
def OM:Fu:=ah (cw (Qh [])) 7 Qi
def gs:List (Str×Int):=[]
noncomputable def fs:List (Str×Nat):=[(("is_whole" : Str),1),(("is_below" : Str),2),(("is_sign" : Str),1),(("answer" : Str),4),(("waits" : Str),2),(("is_plain" : Str),2),(("machine_of" : Str),2),(("may_come" : Str),3),(("can" : Str),3),(("cause_of" : Str),2),(("less_letter" : Str),2),(("more_letter" : Str),2),(("outcome" : Str),3),(("done" : Str),3),(("_law_well" : Str),2),(("_law_draw" : Str),2),(("_law_roads" : Str),2),(("_law_states" : Str),1),(("_law_sends" : Str),2),(("_law_moves" : Str),3),(("_law_form" : Str),1),(("_law_answer" : Str),4),(("_law_comes" : Str),2),(("_law_answered" : Str),3),(("_law_machine" : Str),2),(("_law_done" : Str),3),(("_law_load" : Str),2),(("_law_stand" : Str),2),(("_law_next" : Str),3),(("_law_told" : Str),3),(("_law_any" : Str),3),(("_law_can" : Str),3),(("_law_right" : Str),3),(("law" : Str),1)]
end d5
end
section
namespace d5
open L2 Ev
open PySem PySem.Spec PyProof.Rows
inductive yp (f:Fm):D->Prop
 | dn (d:Dn) (h:da f d):yp f (dc d)
 | Gn:yp f (.tup [.str "own",.int f.ru.length])
 | aa:yp f (.tup [.str "hear",.int 0,.str "aa"])
 | off (k:Int):yp f (.tup [.str "come",.int f.ro.length,.int k])
theorem ON:cP "b" := .inr (.inl rfl)
def Kk(F:Fn):Prop:=∀(M:ag)(w:Nat)(T:Int)(f:Fm)(N:Nat)(s:Sd),WA M w T->T<10000->cH f->cQ f N s->aG (F [.aD w,eE f,eS s] M) λr M'=>∃t,r=.d t/\yp f t/\Fr w M M'
theorem SN{G:bc}(hD:dO (G 15)):Kk (ah G 7 OL):=by
 intro M w T f N s hw hT hf hs;rw[bo];show dB G OL [some (.aD w),some (eE f),some (eS s),none,none,none,none] M _ _ _ _;have l8:=hf.l8;have l4:=hf.l4;have l1:=hf.l1;nofun;refine(hD M w T _ hw ∅ (by rw[aE];omega) (by rw[aE];omega)).imp ?_;rintro r M1 ⟨i,rfl,i0,i1,w1,f1⟩;rw[aE]at i1;nofun;refine(hD M1 w _ 7 w1 ∅ (by decide) (by decide)).imp ?_;rintro r M2 ⟨j,rfl,j0,j1,w2,f2⟩
 have tail:∀(k:Int)(M2:ag),WA M2 w (T+3)->Fr w M M2->dB G (OL.drop 3) [some (.aD w),some (eE f),some (eS s),some (.int i),some (.int k),none,none] M2 (λ_ M'=>∃t,W.d .aJ=.d t/\yp f t/\Fr w M M') (λr M'=>∃t,r=.d t/\yp f t/\Fr w M M') (λ_ _=>False) (λ_ _=>False):=by
  intro k M2 w2 f2;nofun;refine(hD M2 w _ _ w2 ∅ (by rw[aE];omega) (by rw[aE];omega)).imp ?_;rintro r M3 ⟨m,rfl,m0,m1,w3,f3⟩;rw[aE]at m1;obtain⟨m,rfl⟩:=Gy m0;nofun;refine⟨(show(2:Nat)<=sizeLine by decide),?_⟩;nofun;refine⟨(show(3:Nat)<=sizeLine by decide),?_⟩;nofun;refine⟨(show(2:Nat)<=sizeLine by decide),?_⟩;nofun;refine⟨(show(3:Nat)<=sizeLine by decide),?_⟩;nofun;refine⟨(show(3:Nat)<=sizeLine by decide),?_⟩;nofun;refine⟨(show(5:Nat)<=sizeLine by decide),?_⟩;nofun;refine(hD _ w _ 5 w3.app ∅ (by decide) (by decide)).imp ?_;rintro r M4 ⟨n,rfl,n0,n1,w4,f4⟩;have hM:M4[M3.length]?=some (.lst _):=f4.get aA (by have:=w3.lt;omega);have fin:∀t,yp f t->∃t',W.d t=.d t'/\yp f t'/\Fr w M M4:=λt h=>⟨t,rfl,h,Fr.trans (Fr.app (Fr.trans f2 f3)) f4⟩;have:n=0\/n=1\/n=2\/n=3\/n=4:=∅;rcases this with rfl | rfl | rfl | rfl | rfl
  ·nofun;rw[bh hM (by decide) rfl];exact fin _ (.dn (.own m) (by show m<_;omega))
  ·nofun;rw[bh hM (by decide) rfl];obtain⟨i,rfl⟩:=Gy i0;by_cases hi:i<f.ro.length
   ·exact fin _ (.dn (.bI i k) hi)
   ·obtain rfl:i=f.ro.length:=∅;exact fin _ (.off k)
  ·nofun;rw[bh hM (by decide) rfl];rw[show(((f.ru.map sS).length:Nat):Int)=(f.ru.length:Int) by rw[aE]];exact fin _ .Gn
  ·nofun;rw[bh hM (by decide) rfl];exact fin _ .aa
  ·nofun;rw[bh hM (by decide) rfl];exact fin _ (.dn (.dP m "b") ⟨∅,ON⟩)
 nofun;have Fj:=Fr.trans f1 f2
 cases hc:decide (i<((f.ro.map uM).length:Int))with
 | false =>
  obtain⟨c,l,t,hh,h0,h1,h2⟩:=w2;exact tail _ M2 ⟨c,l,t,hh,h0,h1,∅⟩ Fj
 | true =>
  obtain⟨i,rfl⟩:=Gy i0;have hi:i<f.ro.length:=by have:=CJ hc;rw[aE]at this;omega
  nofun;rw[dQ (hs.E6 hi).1];nofun;refine(hD M2 w _ 5 w2 ∅ (by decide) (by decide)).imp ?_;rintro r M3 ⟨n,rfl,n0,n1,w3,f3⟩;exact tail _ M3 (by obtain⟨c,l,t,hh,h0,h1,h2⟩:=w3;exact⟨c,l,t,hh,h0,h1,∅⟩) (Fr.trans Fj f3)
end d5
end
section
namespace d5
open L2 Ev
open PySem PySem.Spec PyProof.Rows
theorem OO:(("own" : Str) == "hear")=false:=⋯
theorem Cc:PyData.strOk "aa" = true:=⋯
theorem OP{M:ag}{a b:Dn}(ha:Cr a)(hb:Cr b):bg .eq (.d (dc a)) (.d (dc b)) M=.ok (PyData.eqv (gP a) (gP b)) M:=by
 have h1:∀d,iH M (.d (dc d))=some (gP d):=λd=>by show cM M 30 (dc d)=_;exact Gj (by decide)
 have h2:∀d,Cr d->SeqAt.shaped (gP d)=true:=λd h=>by
  obtain⟨p,q⟩:=B7 h;unfold SeqAt.shaped;rw[p,yY];exact e5 ∅
 unfold bg
 try simp only[h1,h2 a ha,h2 b hb,jv,dD]
def u_(f:Fm)(s:Sd)(t:D)(b:Bool):Prop:=(b=true/\∃d x,t=dc d/\da f d/\rp f s d=some x)\/(b=false/\∀M,Not f s M t)
theorem kP{f:Fm}{s:Sd}{d:Dn}(h:da f d):u_ f s (dc d) (rp f s d).isSome:=by
 cases e:rp f s d with
 | some x=>exact .inl ⟨rfl,d,x,rfl,h,e⟩
 | none=>exact .inr ⟨rfl,λM=>.inr ⟨d,rfl,h,e⟩⟩
def Cd(F:Fn):Prop:=∀(M:ag)(f:Fm)(N:Nat)(s:Sd)(t:D),cH f->cQ f N s->N<=900->yp f t->aG (F [eE f,eS s,t] M) λr M'=>∃b,r=.d (.bl b)/\u_ f s t b/\Ex M M'
theorem OQ{G:bc}(hA:mG (G 23)):Cd (ah G 3 Qe):=by
 intro M f N s t hf hs h9 ht;rw[bo];show dB G Qe [some (eE f),some (eS s),some t] M _ _ _ _;have ow:∀{d:Dn}{n:Nat},Cr d->bg .eq (.d (dc d)) (.d (.tup [.str "own",.int n])) M=.ok (PyData.eqv (gP d) (gP (.own n))) M:=λ{d n} h=>OP (b:=.own n) h trivial
 cases ht with
 | dn d h =>
  cases d with
  | own m =>
   have hm:m<f.ru.length:=h;nofun;rw[aI bq aX,OO];nofun;refine⟨s2,?_⟩;nofun
   rw[show(((f.ru.map sS).length:Nat):Int)=(f.ru.length:Int) by rw[aE],ow (d:=.own m) trivial,show PyData.eqv (gP (.own m)) (gP (.own f.ru.length))=false by
    unfold gP;simp only[PyData.eqv,PyData.eqvAll,Bool.and_eq_false_iff,mL,ne_eq];exact .inr (.inl ∅)]
   nofun;rw[aI bq aB,ym];nofun;refine(hA M f N s (.own m) hf hs h9 h).imp ?_;rintro r M1 ⟨f1,rfl⟩;nofun;rw[BW];exact⟨_,rfl,kP h,f1⟩
  | dP m c =>
   have hc:=h.2.ok.1;have h1:(c == "aa")=false:=by rcases h.2 with z | z | z | z<;>(rw[z];decide +kernel)
   nofun;rw[aI aX aX,BR];nofun;rw[aI hc Cc,h1];nofun;refine⟨s2,?_⟩;nofun
   rw[show(((f.ru.map sS).length:Nat):Int)=(f.ru.length:Int) by rw[aE],ow (show Cr (.dP m c) from hc),show PyData.eqv (gP (.dP m c)) (gP (.own f.ru.length))=false by
    unfold gP;simp only[PyData.eqv,PyData.eqvAll,JW,yX]]
   nofun;rw[aI aX aB,uQ];nofun;refine(hA M f N s (.dP m c) hf hs h9 h).imp ?_;rintro r M1 ⟨f1,rfl⟩;nofun;rw[BW];exact⟨_,rfl,kP h,f1⟩
  | bI q k =>
   have hq:q<f.ro.length:=h;nofun;rw[aI aB aX,BS];nofun;refine⟨s2,?_⟩;nofun
   rw[show(((f.ru.map sS).length:Nat):Int)=(f.ru.length:Int) by rw[aE],ow (d:=.bI q k) trivial,show PyData.eqv (gP (.bI q k)) (gP (.own f.ru.length))=false by
    unfold gP;simp only[PyData.eqv,PyData.eqvAll,E8,yX]]
   nofun;rw[aI aB aB,mZ];nofun;rw[show((q:Int)==(((f.ro.map uM).length:Nat):Int))=false by rw[aE];simp;omega];nofun;refine(hA M f N s (.bI q k) hf hs h9 h).imp ?_;rintro r M1 ⟨f1,rfl⟩;nofun;rw[BW];exact⟨_,rfl,kP h,f1⟩
 | Gn =>
  nofun;rw[aI bq aX,OO];nofun;refine⟨s2,?_⟩;nofun
  rw[show W.d (D.tup [D.str "own",D.int f.ru.length])=.d (dc (.own f.ru.length)) from rfl,show(((f.ru.map sS).length:Nat):Int)=(f.ru.length:Int) by rw[aE],ow (d:=.own f.ru.length) trivial,show PyData.eqv (gP (.own f.ru.length)) (gP (.own f.ru.length))=true by
   unfold gP;simp[PyData.eqv,PyData.eqvAll]]
  nofun;exact⟨_,rfl,.inr ⟨rfl,λM=>.inl .Gn⟩,Ex.refl _⟩
 | aa =>
  nofun;rw[aI aX aX,BR];nofun;rw[aI Cc Cc,show(("aa" : Str) == "aa")=true by decide +kernel];nofun;exact⟨_,rfl,.inr ⟨rfl,λM=>.inl .aa⟩,Ex.refl _⟩
 | off k =>
  nofun;rw[aI aB aX,BS];nofun;refine⟨s2,?_⟩;nofun
  rw[show W.d (D.tup [D.str "come",D.int f.ro.length,D.int k])=.d (dc (.bI f.ro.length k)) from rfl,show(((f.ru.map sS).length:Nat):Int)=(f.ru.length:Int) by rw[aE],ow (d:=.bI f.ro.length k) trivial,show PyData.eqv (gP (.bI f.ro.length k)) (gP (.own f.ru.length))=false by
   unfold gP;simp only[PyData.eqv,PyData.eqvAll,E8,yX]]
  nofun;rw[aI aB aB,mZ];nofun;rw[show((f.ro.length:Int)==(((f.ro.map uM).length:Nat):Int))=true by rw[aE];simp];nofun;exact⟨_,rfl,.inr ⟨rfl,λM=>.inl (.off k)⟩,Ex.refl _⟩
end d5
end
section
namespace d5
open L2 Ev
open PySem PySem.Spec PyProof.Rows
theorem kQ{a b:Dn}(h:dc a=dc b):a=b:=by
 cases a<;>cases b<;>simp only[dc,D.tup.injEq,List.cons.injEq,D.str.injEq,D.int.injEq,and_true,true_and]at h
 ·obtain rfl:=Int.ofNat.inj h;rfl
 ·exact absurd h.1 ⋯
 ·exact absurd h.1 ⋯
 ·exact absurd h.1 ⋯
 ·obtain⟨h,rfl⟩:=h;obtain rfl:=Int.ofNat.inj h;rfl
 ·exact absurd h.1 ⋯
 ·exact absurd h.1 ⋯
 ·exact absurd h.1 ⋯
 ·obtain⟨h,rfl⟩:=h;obtain rfl:=Int.ofNat.inj h;rfl
theorem Kl{f:Fm}{M:ag}{d:Dn}(hb:sU f M (dc d))(hd:da f d):False:=by
 generalize e:dc d=t at hb
 cases hb with
 | aJ=>cases d<;>cases e
 | int i=>cases d<;>cases e
 | str i=>cases d<;>cases e
 | emp=>cases d<;>cases e
 | aD n ds h=>cases d<;>cases e
 | keep x=>cases d<;>simp[dc]at e<;>exact absurd e.1 ⋯
 | SF=>cases d<;>simp[dc]at e
 | Gn=>obtain rfl:=kQ (b:=.own f.ru.length) e;exact absurd (show f.ru.length<f.ru.length from hd) (iJ _)
 | aa =>
  obtain rfl:=kQ (b:=.dP 0 "aa") e;rcases(show _/\cP "aa" from hd).2 with z | z | z | z<;>exact absurd z ⋯
 | off k=>obtain rfl:=kQ (b:=.bI f.ro.length k) e;exact absurd (show f.ro.length<f.ro.length from hd) (iJ _)
 | note x y=>cases d<;>simp[dc]at e<;>exact absurd e.1 ⋯
theorem sM{f:Fm}{s:Sd}{t:D}{a b:Bool}(h:u_ f s t a)(k:u_ f s t b):a=b:=by
 have no:∀d x,da f d->rp f s d=some x->¬Not f s [] (dc d):=λd x hd hx hn=>by
  rcases hn with z | ⟨d',e,_,z⟩
  ·exact Kl z hd
  ·rw[<- kQ e,hx]at z;cases z
 rcases h with⟨rfl,d,x,rfl,hd,hx⟩|⟨rfl,h⟩<;>rcases k with⟨rfl,d',x',e,G0,Pc⟩|⟨rfl,k⟩
 ·rfl
 ·exact absurd (k []) (no d x hd hx)
 ·subst e;exact absurd (h []) (no d' x' G0 Pc)
 ·rfl
theorem yp.u_{f:Fm}{s:Sd}{t:D}(h:yp f t):∃b,u_ f s t b:=by
 cases h with
 | dn d h=>exact⟨_,kP h⟩
 | Gn=>exact⟨false,.inr ⟨rfl,λM=>.inl .Gn⟩⟩
 | aa=>exact⟨false,.inr ⟨rfl,λM=>.inl .aa⟩⟩
 | off k=>exact⟨false,.inr ⟨rfl,λM=>.inl (.off k)⟩⟩
theorem OR:Sm 31 1 (.tup [.str "no",.int 0]):=Sm.tup (b:=12) (h:=0) (k:=2) (λd hd=>by
 simp only[bS,gm,fh]at hd;rcases hd with rfl | rfl
 ·exact Sm.str ⋯ ⟨⋯,⋯⟩
 ·exact(Sm.int (by decide) (by decide)).mono (by decide) (by decide)) (by decide)
theorem Km{f:Fm}(hf:cH f){N:Nat}{s:Sd}(hs:cQ f N s)(hN:N<=190){d:Dn}(hd:da f d){x:Int×List (Int×Str)×Option Str}(hx:yk f (mc f d) x):Sm 474113 6 (.tup [eS (Gf f s d x),KU f d x]):=Sm.tup (b:=237053) (h:=5) (k:=2) (λe he=>by
 simp only[bS,gm,fh]at he;rcases he with rfl | rfl
 ·exact Gp hf (hs.Gf hd hx) ∅
 ·unfold KU
  cases hw:x.2.2 with
  | none=>exact Sm.aJ.mono (by decide) (by decide)
  | some w =>
   refine(show Sm 35 1 (.tup [.int (mc f d),.str w]) from Sm.tup (b:=14) (h:=0) (k:=2) (λe he=>?_) (aL 2)).mono (by decide) (by decide);simp only[bS,gm,fh]at he;rcases he with rfl | rfl
   ·exact u9 ∅ (by have:=da.mc hf hd;have:=hf.l4;omega)
   ·exact OI (hw▸hx.w)) (aL 2)
def vc(F:Fn):Prop:=∀(M:ag)(f:Fm)(N:Nat)(s:Sd)(t:D),cH f->cQ f N s->N<=190->yp f t->aG (F [eE f,eS s,t] M) λr M'=>r=.d (.bl true)/\Ex M M'
theorem Kn{G:bc}(hT:ToldF (G 29))(hC:Cd (G 31))(hO:ib (G 25)):vc (ah G 6 Qg):=by
 intro M f N s t hf hs h9 ht;rw[bo];show dB G Qg [some (eE f),some (eS s),some t,none,none,none] M _ _ _ _;obtain⟨x,hx,SO⟩:=pX (Gp hf hs ∅) (by decide) (by decide);obtain⟨b,hb⟩:=ht.u_ (s:=s);nofun;rw[SO];nofun;rcases id hb with⟨rfl,d,y,rfl,hd,hy⟩|⟨rfl,hn⟩
 ·have ay:=wD hf hs hd hy;obtain⟨z,hz,OS⟩:=pX (Km hf hs h9 hd ay) (by decide) (by decide);refine((hT M f N s _ hf hs ∅).1 d y rfl hd hy).imp ?_;rintro r M1 ⟨f1,rfl⟩;nofun;refine⟨s2,?_⟩;nofun;refine(hC M1 f N s _ hf hs ∅ ht).imp ?_;rintro r M2 ⟨b,e,SQ,f2⟩;obtain rfl:=sM hb SQ;subst e;nofun;refine(hO M2 f N s d y hf hs ∅ hd hy).imp ?_;rintro r M3 ⟨f3,rfl⟩;nofun;rw[OS];nofun;rw[OS];nofun;rw[aI hz hz,qD];nofun;rw[SO];nofun;rw[aI hx hx,qD];exact⟨rfl,Ex.trans (Ex.trans f1 f2) f3⟩
 ·obtain⟨z,hz,OS⟩:=pX OR (by decide) (by decide);refine((hT M f N s _ hf hs ∅).2 (hn M)).imp ?_;rintro r M1 ⟨f1,rfl⟩;nofun;refine⟨s2,?_⟩;nofun;refine(hC M1 f N s _ hf hs ∅ ht).imp ?_;rintro r M2 ⟨b,e,SQ,f2⟩;obtain rfl:=sM hb SQ;subst e;nofun;rw[OS];nofun;rw[OS];nofun;rw[aI hz hz,qD];nofun;rw[SO];nofun;rw[aI hx hx,qD];exact⟨rfl,Ex.trans f1 f2⟩
theorem OT{M:ag}:bg .ne (.d (.tup [.str "no",.int 0])) (.d (.tup [.str "no",.int 0])) M=.ok false M:=by
 have h1:iH M (.d (.tup [.str "no",.int 0]))=some (.tuple [.str "no",.int 0]):=by show cM M 30 (.tup _)=_;try simp only[cM,bC,tf]
 have h2:SeqAt.shaped (.tuple [.str "no",.int 0])=true:=⋯;have h3:PyData.eqv (.tuple [.str "no",.int 0]) (.tuple [.str "no",.int 0])=true:=⋯;unfold bg;simp only[h1,h2,jv,dD,h3];rfl
theorem Ko{G:bc}(hF:BB (G 20))(N7:qi (G 27))(hW:nU (G 14))(hD:dO (G 15))(X5:uW (G 28))(B2:Kk (G 30))(hR:vc (G 32))(X6:ib (G 25))(hT:ToldF (G 29))(ns:List Int)(ko:ns.length<=63):aG (ah G 7 Qi [.ls (ns.map D.int)] []) λr _=>r=.d (.bl true):=by
 rw[bo];show dB G Qi [some (.ls (ns.map D.int)),none,none,none,none,none,none] [] _ _ _ _;nofun;refine(hF [] ns ko).imp ?_;rintro r M1 ⟨d,e,hd,f1⟩;obtain⟨f,rfl,hf⟩:=uO hd;subst e;nofun;refine(N7 M1 ns f ko hf).imp ?_;rintro r M2 ⟨Sx,rfl,Si,_,f2⟩;nofun;refine(hW M2 ns 6 ∅ ∅ ko).imp ?_;rintro r M3 ⟨rfl,Pq,wm,f3⟩;nofun;refine(hD M3 M2.length 0 14 wm ∅ ∅ ∅).imp ?_;rintro r M4 ⟨t,rfl,t0,t1,j7,f4⟩;nofun;refine⟨⟨∅,∅⟩,?_⟩;refine j6 (n:=(6+t).toNat) (λi ρ M'=>∃o3 o4 o5 o6,∃s:Sd,ρ=[some (.ls (ns.map D.int)),some (eE f),some (eS s),o3,o4,o5,o6]/\cQ f (4+3*i) s) ⟨_,_,_,_,Sx,rfl,Si⟩ ?_ ?_
 ·rintro i ρ M5 hi ⟨o3,o4,o5,o6,s,rfl,hs⟩;have Zj:i<20:=∅;nofun;refine(hW M5 ns (7+(0+(i:Int))) ∅ ∅ ko).imp ?_;rintro r M9 ⟨rfl,Zk,PF,f9⟩;nofun;refine(X5 M9 M5.length 0 f _ s PF ∅ hf hs ∅).imp ?_;rintro r X7 ⟨d,rfl,KP,hd2,SS,Uq⟩;obtain⟨x,hx⟩:=wR.mp hd2;have ax:=wD hf hs KP hx;nofun;refine(B2 X7 M5.length _ f _ s SS ∅ hf hs).imp ?_;rintro r X8 ⟨t',rfl,ht,Us⟩;nofun;refine(hR X8 f _ s t' hf hs ∅ ht).imp ?_;rintro r X9 ⟨rfl,Fj⟩;nofun;refine(hR X9 f _ s _ hf hs ∅ (.dn d KP)).imp ?_;rintro r X_ ⟨rfl,PX⟩;nofun;refine(X6 X_ f _ s d x hf hs ∅ KP hx).imp ?_;rintro r Zl ⟨Uw,rfl⟩;exact⟨_,_,_,_,Gf f s d x,rfl,by have:=hs.Gf KP ax;rw[show 4+3*(i+1)=4+3*i+3 by omega];exact this⟩
 ·rintro ρ M5 ⟨o3,o4,o5,o6,s,rfl,hs⟩;have Zm:4+3*(6+t).toNat<=100:=∅;nofun;refine⟨s0,?_⟩;nofun;refine⟨s2,?_⟩;nofun;refine⟨(show(1:Nat)<=sizeLine by decide),?_⟩;nofun;refine⟨s2,?_⟩;nofun;refine⟨s2,?_⟩;nofun;refine⟨(show(7:Nat)<=sizeLine by decide),?_⟩;nofun;refine je (λi ρ M'=>∃o6,ρ=[some (.ls (ns.map D.int)),some (eE f),some (eS s),o3,o4,o5,o6]/\M'[M5.length]?=some (.lst [.tup [.str "own",.int 0]])) ⟨_,rfl,aA⟩ ?_ ?_
  ·rintro i ρ M6 th R3 ⟨o6,rfl,hM⟩
   have hb:sU f M6 th:=by
    have hm:=gQ R3;simp only[bS,gm,fh]at hm;rcases hm with rfl | rfl | rfl | rfl | rfl | rfl | rfl
    ·exact .aJ
    ·exact .int 7
    ·exact .emp
    ·exact .aD _ _ hM
    ·exact .keep _
    ·exact .str _
    ·exact .SF
   nofun;refine((hT M6 f _ s th hf hs ∅).2 (.inl hb)).imp ?_;rintro r M7 ⟨f7,rfl⟩;nofun;refine⟨s2,?_⟩;nofun;rw[OT];exact⟨_,rfl,Ex.get f7 hM⟩
  ·rintro ρ M6 ⟨o6,rfl,hM⟩;nofun
theorem Ce:∀ns:List Int,ns.length<=63->∃M,OM [.ls (ns.map D.int)] []=.ok (.d (.bl true)) M:=by
 intro ns ko;have h0:∀l,mE (cw (c1 l) 0):=λl=>JY;have yq:∀l,uX (cw (c1 l) 0):=λl=>Ke;have h1:∀l,qe (cw (c2 l) 1):=λl=>JZ (h0 _);have yt:∀l,uY (cw (c2 l) 1):=λl=>Kg (h0 _) (yq _);have h2:∀l,BU (cw (c3 l) 2):=λl=>Od;have Cf:∀l,Cb (cw (c3 l) 2):=λl=>OF;have h3:∀l,jh (cw (c4 l) 3):=λl=>E1;have h4:∀l,qf (cw (c5 l) 4):=λl=>J1;have h5:∀l,uR (cw (c6 l) 5):=λl=>J0 (h1 _) (h2 _) (h0 _);have yu:∀l,uZ (cw (c6 l) 5):=λl=>Kh (h1 _) (yt _) (Cf _);have h6:∀l,nZ (cw (c7 l) 6):=λl=>Oc;have h7:∀l,J2 (cw (c8 l) 7):=λl=>Sq (h4 _);have h8:∀l,BZ (cw (c9 l) 8):=λl=>Sr (h5 _) (h3 _) (h7 _);have Fv:∀l,Fo (cw (c9 l) 8):=λl=>SG (yu _);have h9:∀l,uS (cw (PQ l) 9):=λl=>J6 (h4 _);have Yb:∀l,B1 (cw (PR l) 10):=λl=>Oi;have Yc:∀l,wI (cw (PU l) 11):=λl=>Oj;have Yd:∀l,ib (cw (PV l) 12):=λl=>Oq (h6 _) (h3 _) (h9 _) (Yb _) (Yc _);have Ye:∀l,ib (cw (OK l) 13):=λl=>OG (h8 _) (Yd _);have yv:∀l,SI 63 (cw (OK l) 13):=λl=>OH (h8 _) (Fv _);have SU:∀l,nU (cw (PY l) 14):=λl=>NU;have vp:∀l,dO (cw (PZ l) 15):=λl=>JK;have Yg:∀l,uy (cw (P0 l) 16):=λl=>JL (vp _);have Yh:∀l,kL (cw (P1 l) 17):=λl=>EW (vp _);have Yi:∀l,uC (cw (P2 l) 18):=λl=>JO (vp _);have Yj:∀l,pV (cw (P4 l) 19):=λl=>JP (vp _) (Yi _);have Yk:∀l,BB (cw (P5 l) 20):=λl=>N8 (SU _) (vp _) (Yg _) (Yh _) (Yj _);have Yl:∀l,kM (cw (P6 l) 21):=λl=>E4;have UN:∀l,kO (cw (P7 l) 22):=λl=>Fc;have SV:∀l,mG (cw (P8 l) 23):=λl=>J9 (Yl _) (UN _);have Ym:∀l,nZ (cw (P9 l) 24):=λl=>JX;have UO:∀l,ib (cw (P_ l) 25):=λl=>Kb (SV _) (Ym _);have Yn:∀l,uU (cw (Qa l) 26):=λl=>J_ (vp _);have Yo:∀l,qi (cw (Qb l) 27):=λl=>Fh (SU _) (vp _) (Yn _);have yw:∀l,uW (cw (SM l) 28):=λl=>Kd (UN _) (SV _) (vp _);have sN:∀l,ToldF (cw (Qc l) 29):=λl=>Fq (F:=PX) (Ye []) (yv []);have Yp:∀l,Kk (cw (Qd l) 30):=λl=>SN (vp _);have Yq:∀l,Cd (cw (Qf l) 31):=λl=>OQ (SV _);have Yr:∀l,vc (cw (Qh l) 32):=λl=>Kn (sN _) (Yq _) (UO _);obtain⟨r,M,e,q⟩:=pN (Ko (G:=cw (Qh [])) (Yk _) (Yo _) (SU _) (vp _) (yw _) (Yp _) (Yr _) (UO _) (sN _) ns ko);subst q;exact⟨M,e⟩
end d5
end
section
namespace d5
open L2 Ev PySem PySem.Spec PyProof.Rows
theorem UP{P:Params}{h:Heap}{mg:Str->Option Value}(X:(Kf P).In h)(G:h.Ns mainGlobals mg):∀b∈dr,mg b=none:=by
 have z:dr.all (λb=>match PySem.W.nsIn (Kf P) mainGlobals b with | some none=>true | _=>false)=true:=nofun;intro b hb;have q:=s_.mp z b hb;split at q
 ·rename_i e;exact PySem.W.mg_none_of X G e
 ·cases q
noncomputable def xs:List (Str×Addr×Str):=[(("NoDeed" : Str),63,"number")]
theorem Gq{P:Params}:qm (Kf P) 63 24 60 "number" := qm.of (show(Kf P).lookup 63=some (kl "NoDeed" 63 62 [(.ref 24)] ((.ref 24)::VE) [] (.ref 47) 234 242) by kernel_rfl) (nofun) (nofun) (nofun) (show(Kf P).lookup 24=some (kl "CutError" 24 23 [(.type "ValueError")] VE [(.ref 44),(.ref 63),(.ref 82),(.ref 101),(.ref 120),(.ref 139),(.ref 158),(.ref 177),(.ref 196),(.ref 215),(.ref 234)] (.ref 15) 189 197) by kernel_rfl) (nofun) (nofun) yf
theorem OU{P:Program}{w:World}{mg:Str->Option Value}{base:Heap}:dE P w (Kf w.params) mg base FO 1 60 (PySem.W.fnOf "__init__" "NoDeed.__init__" (eT yx) (bZ yx) (aF yx) .none .none .none m5 none (.ref 59) .none) ["self","number"] (HX (Kf w.params) 63 24 60 "number"):=DO (pb (show(Kf w.params).lookup 60=some (fo (PySem.W.fnOf "__init__" "NoDeed.__init__" (eT yx) (bZ yx) (aF yx) .none .none .none m5 none (.ref 59) .none)) by kernel_rfl) (nofun) (nofun)) (pM ⋯) rfl (.inl (nofun)) (.inl (nofun)) ⋯
theorem OV{P:Program}{w:World}{h base:Heap}{mg:Str->Option Value}(X:(Kf w.params).In h)(G:h.Ns mainGlobals mg):TV P w (Kf w.params) mg base xs:=by
 intro x a f e;unfold xs at e;rw[eF]at e;split at e
 ·rename_i q
  obtain rfl:=eq_of_beq q;cases e;exact⟨_,_,_,_,_,Gq,(show(Kf w.params).lookup 60=some (fo (PySem.W.fnOf "__init__" "NoDeed.__init__" (eT yx) (bZ yx) (aF yx) .none .none .none m5 none (.ref 59) .none)) by kernel_rfl),rfl,OU,.all (λus hl=>match us,hl with | [_,_],_=>rfl),fY X G (nofun)⟩
 ·cases e
abbrev AL(l:PySem.W.OpenLaw)(w:World)(mg:Str->Option Value)(base:Heap)(i:Nat):=All l.prog w (Kf w.params) mg base i (fs.take i)
theorem all_mk{l:PySem.W.OpenLaw}{w:World}{h:Heap}{mg:Str->Option Value}{fa:Addr}(X:(Kf w.params).In h)(G:h.Ns mainGlobals mg) (Ys:mg "law" = some (.ref fa)):∃fd:FuncData,(∀(s:Shared)(v:Value),BindsTo s fd ⟨[v],[]⟩ [("_law_script",v)])/\∀base:Heap,(Kf w.params).In base->base.Ns mainGlobals mg->dE l.prog w (Kf w.params) mg base (ql l.prog w) 34 fa fd ["_law_script"] (yF (Kf w.params) 1 OM):=by
 have W:Cw (Kf w.params) h mg gs:=⟨X,G,UP X G,Jb X G (nofun)⟩;cases Ys.symm.trans (fY X G (show PySem.W.nsIn (Kf w.params) mainGlobals "law" = some (some (.ref 458)) by kernel_rfl));refine⟨fq "law" GO m4 (.ref 457),λs v=>.of_eq rfl,λbase _ _=>?_⟩;have A0:AL l w mg base 0 []:=All.nil;have A1:AL l w mg base 1 (c1 []):=nx "is_whole" 243 SX n0 ["thing"] b0 m0 (.ref 242) W A0;have A2:AL l w mg base 2 (c2 []):=nx "is_below" 250 SY n1 ["thing","bound"] b1 m0 (.ref 249) W A1;have A3:AL l w mg base 3 (c3 []):=nx "is_sign" 257 S0 n2 ["thing"] b2 m0 (.ref 256) W A2;have A4:AL l w mg base 4 (c4 []):=nx "answer" 264 S1 n3 ["form","m","state","cause"] b3 m1 (.ref 263) W A3;have A5:AL l w mg base 5 (c5 []):=nx "waits" 271 S2 n4 ["stand","road"] b4 m2 (.ref 270) W A4;have A6:AL l w mg base 6 (c6 []):=nx "is_plain" 278 S3 n5 ["form","thing"] b5 m3 (.ref 277) W A5;have A7:AL l w mg base 7 (c7 []):=nx "machine_of" 285 S4 n6 ["form","deed"] b6 m3 (.ref 284) W A6;have A8:AL l w mg base 8 (c8 []):=nx "may_come" 297 S5 n7 ["form","stand","road"] b7 m3 (.ref 296) W A7;have A9:AL l w mg base 9 (c9 []):=nx "can" 292 S6 n8 ["form","stand","thing"] b8 m3 (.ref 291) W A8;have Yt:AL l w mg base 10 (PQ []):=nx "cause_of" 318 S7 n9 ["stand","deed"] b9 m3 (.ref 317) W A9;have Yu:AL l w mg base 11 (PR []):=nx "less_letter" 323 K1 Xj ["letters","k"] Up m3 (.ref 322) W Yt;have Yv:AL l w mg base 12 (PU []):=nx "more_letter" 330 K2 Xk ["letters","sign"] Ur m3 (.ref 329) W Yu;have Yw:AL l w mg base 13 (PV []):=nx "outcome" 311 K3 Xl ["form","stand","deed"] Ut m3 (.ref 310) W Yv;have Yx:AL l w mg base 14 (OK []):=Wl "done" 304 K4 Xm ["form","stand","thing"] Uu m3 (.ref 303) W Yw (OV X G) (by decide);have Yy:AL l w mg base 15 (PY []):=nx "_law_well" 337 K5 Xn ["_law_script","_law_k"] Uv m4 (.ref 336) W Yx;have Yz:AL l w mg base 16 (PZ []):=nx "_law_draw" 344 K6 Xo ["_law_well_here","_law_many"] Ux m4 (.ref 343) W Yy;have YA:AL l w mg base 17 (P0 []):=nx "_law_roads" 351 K7 Xq ["_law_well_here","_law_machines"] Uy m4 (.ref 350) W Yz;have YB:AL l w mg base 18 (P1 []):=nx "_law_states" 358 K8 Xs ["_law_well_here"] Uz m4 (.ref 357) W YA;have YC:AL l w mg base 19 (P2 []):=nx "_law_sends" 365 K9 Xv ["_law_well_here","_law_ways"] UA m4 (.ref 364) W YB;have YD:AL l w mg base 20 (P4 []):=nx "_law_moves" 372 K_ Xx ["_law_well_here","_law_some","_law_ways"] UB m4 (.ref 371) W YC;have YE:AL l w mg base 21 (P5 []):=nx "_law_form" 377 La Xz ["_law_script"] UC m4 (.ref 376) W YD;have YF:AL l w mg base 22 (P6 []):=nx "_law_answer" 382 Lb XB ["_law_form_here","_law_m","_law_state","_law_cause"] UD m4 (.ref 381) W YE;have YG:AL l w mg base 23 (P7 []):=nx "_law_comes" 387 Lc XD ["_law_form_here","_law_stand_here"] UE m4 (.ref 386) W YF;have YH:AL l w mg base 24 (P8 []):=nx "_law_answered" 394 Ld XF ["_law_form_here","_law_stand_here","_law_deed"] UG m4 (.ref 393) W YG;have YI:AL l w mg base 25 (P9 []):=nx "_law_machine" 401 Le XH ["_law_form_here","_law_deed"] UH m4 (.ref 400) W YH;have YJ:AL l w mg base 26 (P_ []):=nx "_law_done" 406 Lf XJ ["_law_form_here","_law_stand_here","_law_deed"] UI m4 (.ref 405) W YI;have YK:AL l w mg base 27 (Qa []):=nx "_law_load" 413 Lg XN ["_law_well_here","_law_order"] UJ m4 (.ref 412) W YJ;have YL:AL l w mg base 28 (Qb []):=nx "_law_stand" 418 Lh XR ["_law_script","_law_form_here"] UK m4 (.ref 417) W YK;have UQ:AL l w mg base 29 (SM []):=nx "_law_next" 423 Li XT ["_law_well_here","_law_form_here","_law_stand_here"] UL m4 (.ref 422) W YL;obtain⟨Zn,YM,⟨Zo,Zp,Zq,YN,YO,YQ,YR⟩⟩:=UQ.2 13 "done" 3 rfl;cases YM;have YS:dE l.prog w (Kf w.params) mg base (ql l.prog w) 30 430 (fq "_law_told" GN m4 (.ref 429)) ["_law_form_here","_law_stand_here","_law_deed"] (yF (Kf w.params) 3 UM):=EU (l:=[("NoCut",⟨268,26,268,31⟩,82),("NoForm",⟨268,33,268,39⟩,44),("NoLine",⟨268,41,268,47⟩,139),("NoNumbers",⟨268,49,268,58⟩,120),("NoRow",⟨268,60,268,65⟩,234),("NoRun",⟨268,67,268,72⟩,196),("NoTaking",⟨268,74,268,82⟩,101),("NoText",⟨268,84,268,90⟩,215),("NoWorld",⟨268,92,268,99⟩,177),("NoZigzag",⟨268,101,268,109⟩,158)]) (B:=24) (C:=63) (pb (show(Kf w.params).lookup 430=some (fo (fq "_law_told" GN m4 (.ref 429))) by kernel_rfl) (nofun) (nofun)) (pM ⋯) rfl ⋯ (UP X G _ ⋯) (PySem.W.mg_none_of X G (nofun)) (fY X G (nofun)) (fY X G (nofun)) (by simp only[List.forall_mem_cons];refine⟨fY X G (nofun),fY X G (nofun),fY X G (nofun),fY X G (nofun),fY X G (nofun),fY X G (nofun),fY X G (nofun),fY X G (nofun),fY X G (nofun),fY X G (nofun),λ_ z=>nomatch z⟩) (by decide) Gq (nofun) (nofun) (nofun) (nofun) (nofun) YN YO YQ YR;have YT:AL l w mg base 30 (Qc []):=UQ.snoc ⟨_,_,_,YS,fY X G (nofun),nofun,.all (λus hl=>match us,hl with | [_,_,_],_=>rfl)⟩;have YU:AL l w mg base 31 (Qd []):=nx "_law_any" 437 Lj XW ["_law_well_here","_law_form_here","_law_stand_here"] OL m4 (.ref 436) W YT;have YV:AL l w mg base 32 (Qf []):=nx "_law_can" 444 Lk XY ["_law_form_here","_law_stand_here","_law_deed"] Qe m4 (.ref 443) W YU;have YW:AL l w mg base 33 (Qh []):=nx "_law_right" 451 Ll X2 ["_law_form_here","_law_stand_here","_law_deed"] Qg m4 (.ref 450) W YV;exact Bc "law" 458 GO X4 ["_law_script"] Qi m4 (.ref 457) W YW (nofun) (nofun) (nofun) ⋯
theorem Kp{K:Frag}{H:Hp}{a:Addr}{xs:List V}(hO:Dy H)(h:gj K H a xs):rB K H a xs:=by
 rcases h with(h | ⟨o,h⟩) | h
 ·rcases hO a with q | ⟨o,ys,q⟩
  ·rw[q]at h;cases h
  ·rw[q]at h;cases h
 ·exact .inl ⟨o,h⟩
 ·exact .inr h
theorem sO{K:Frag}{H:Hp}{ads:List Addr}:∀(ns:List Int),aT K ads H (ns.map D.int) (ns.map V.int)
 | []=>by unfold aT;rfl
 | i::ns=>by
  show aT K ads H (D.int i::ns.map D.int) (V.int i::ns.map V.int);unfold aT;exact⟨_,_,rfl,by unfold RD;rfl,sO ns⟩
theorem walk {l : PySem.W.OpenLaw} {q : Program} {loose : List Str} {XP : (Str -> Option Value) -> Heap -> Prop} {YP : World -> Heap -> Prop} {d : DefRec} {K : Params -> Frag} (SW : ∀ ns : List Int, ns.length <= 63 -> ∃ M, OM [.ls (ns.map D.int)] [] = .ok (.d (.bl true)) M) (hn : l.most = some 63) (FN : d.params.defaults = [])
    (hY:∀(w:World)(h:Heap),YP w h->(K w.params).In h)
    (F:∀(w:World)(mg:Str->Option Value)(fa:Addr)(h:Heap),(K w.params).In h->h.Ns mainGlobals mg->mg d.name=some (.ref fa) ->
      ∃fd:FuncData,(∀(s:Shared)(u:Value),BindsTo s fd ⟨[u],[]⟩ [("_law_script",u)])/\∀base:Heap,(K w.params).In base->base.Ns mainGlobals mg->dE l.prog w (K w.params) mg base (ql l.prog w) 34 fa fd ["_law_script"] (yF (K w.params) 1 OM)) :
    PySem.W.WalkO q loose XP YP l.row.toRowW d [] (λf vs=>PySem.call f vs) :=
  L2.Dz (n:=63) (k:=34) (x := "_law_script") (CX:=λw=>ql l.prog w) (sp:=λw=>yF (K w.params) 1 OM) hn (by decide) FN ⟨rfl,by decide,by decide,rfl⟩ hY F (λw H a ns hl hO hS=>by
    obtain⟨M,hM⟩:=SW ns hl;refine⟨[],[],[.ls (ns.map D.int)],⟨List.nodup_nil,rfl,λn o a e _=>by simp at e⟩,.one ?_,rfl,?_⟩
    · unfold RD;exact⟨a,_,rfl,Kp hO hS,sO ns⟩
    · rw[hM];intro v H' aq _ _ r;have r:RD (K w.params) aq H' (.bl true) v:=r;unfold RD at r;exact r) λ_ _ _ _ _ ⟨_,_,_,_,_,_,_,_,_,_,_,_,_,z⟩=>z
theorem Kq:PySem.W.OpenLaw.wellSaid PySem.Challenge.rw_cutstand_k05_deeds_done=true:=nofun
end d5
end
end
open PySem PySem.W PyProof.Rows
set_option maxRecDepth 100000 in
set_option maxHeartbeats 0 in
theorem PySem.Challenge.cw_cutstand_k05_deeds_done_holds : PySem.Challenge.rw_cutstand_k05_deeds_done.Holds := by
 refine holds_law d5.Kq λKq=>?_;refine holds_open (q:=d5.vw) (loose:=[]) (Xt:=λs=>xlAt d5.vw [] s&&recOk [] s) (XP:=XL d5.vw []) (Yf:=Hook.obs d5.hk) (Ya:=Hook.val d5.hk) (YP:=Hook.says d5.hk) (N:=8132) d5.UW (Hook.of d5.hk) (Hook.keeps d5.hk) (λs e=>xl_of s (Bool.and_eq_true_iff.mp e).1) XL.keeps (by rfl) (by rfl) (by rfl) (λs e=>recFacts_of (Bool.and_eq_true_iff.mp e).2) (by rfl) Kq ⋯ ⟨rfl,rfl,rfl,rfl,rfl,⋯⟩ ?hw ?hc
 case hw=>w_witness2
 case hc=>exact d5.walk (l:=PySem.Challenge.rw_cutstand_k05_deeds_done) (K:=d5.Kf) d5.Ce rfl rfl (λw h Y=>kIn_of Y) λw mg fa h KX G Md=>d5.all_mk KX G Md
